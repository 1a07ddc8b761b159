package linear

import "querylab/api"

// A sum is a fraction in lowest terms, of any size. All fractions that are added to it are valid.
type sum struct {
	num integer
	den natural
}

// total returns the sum of the numbers times the fractions.
func total(numbers []int64, fractions []api.Frac) sum {
	s := sum{den: natural{1}}
	for k, n := range numbers {
		s = s.plus(n, fractions[k])
	}
	return s
}

func product(a, b api.Frac) sum {
	// What is divided out crosswise is all that the products would have in common.
	one := divisor(uint64(b.Den), magnitude(a.Num))
	other := divisor(uint64(a.Den), magnitude(b.Num))
	num := integer{size: natural{1}}.times(a.Num / int64(one)).times(b.Num / int64(other))
	return sum{num, natural{uint64(a.Den) / other}.times(uint64(b.Den) / one)}
}

// plus adds n times f.
func (s sum) plus(n int64, f api.Frac) sum {
	if n == 0 || f.Num == 0 {
		return s
	}
	common := divisor(uint64(f.Den), magnitude(n))
	n, den := n/int64(common), uint64(f.Den)/common
	shared := s.den.shared(den)
	rest, _ := s.den.over(shared)
	num := s.num.times(int64(den / shared)).plus(integer{size: rest}.times(n).times(f.Num))
	// Over the least common denominator, all that the numerator can have in common with it are divisors of what both denominators share.
	common = num.size.shared(shared)
	return sum{num.over(common), rest.times(den / common)}
}

func (s sum) compare(f api.Frac) int {
	return s.plus(-1, f).num.sign()
}

// fraction also reports whether the sum is a valid fraction.
func (s sum) fraction() (api.Frac, bool) {
	most := natural{api.MaxFrac}
	if s.num.size.compare(most) > 0 || s.den.compare(most) > 0 {
		return api.Frac{}, false
	}
	return api.Frac{Num: int64(s.num.sign()) * int64(s.num.size.word(0)), Den: int64(s.den.word(0))}, true
}
