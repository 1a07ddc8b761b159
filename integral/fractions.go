package integral

import "querylab/api"

func whole(n int64) api.Frac {
	return api.Frac{Num: n, Den: 1}
}

func wholes(l []int64) []api.Frac {
	fractions := make([]api.Frac, len(l))
	for k, n := range l {
		fractions[k] = whole(n)
	}
	return fractions
}

func zeros(n int) []api.Frac {
	return wholes(make([]int64, n))
}

func broken(f api.Frac) bool {
	return f.Den > 1
}
