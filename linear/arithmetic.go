package linear

import (
	"querylab/api"
	"querylab/fraction"
)

// tooLarge is what a search panics with where a fraction becomes too large.
type tooLarge struct{}

func fit(f api.Frac, ok bool) api.Frac {
	if !ok {
		panic(tooLarge{})
	}
	return f
}

// plus returns a plus n times b.
func plus(a, n, b api.Frac) api.Frac {
	return fit(product(n, b).plus(1, a).fraction())
}

func over(a, b api.Frac) api.Frac {
	f, err := fraction.Div(a, b)
	return fit(f, err == api.OK)
}

func negative(a api.Frac) api.Frac {
	return api.Frac{Num: -a.Num, Den: a.Den}
}

func absolute(a api.Frac) api.Frac {
	if a.Num < 0 {
		return negative(a)
	}
	return a
}

func whole(n int64) api.Frac {
	return api.Frac{Num: n, Den: 1}
}

func wholes(l []int64) []api.Frac {
	fractions := make([]api.Frac, len(l))
	for k, n := range l {
		fractions[k] = whole(n)
	}
	return fractions
}
