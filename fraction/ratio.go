package fraction

import (
	"math"

	"querylab/api"
)

// A ratio is a valid fraction.
type ratio api.Frac

// small reports whether sums of two products of numbers of such ratios fit into an int64.
func (a ratio) small() bool {
	return -math.MaxInt32 <= a.Num && a.Num <= math.MaxInt32 && a.Den <= math.MaxInt32
}

func (a ratio) negated() ratio {
	return ratio{Num: -a.Num, Den: a.Den}
}

// inverted is for a ratio that is not 0.
func (a ratio) inverted() ratio {
	if a.Num < 0 {
		return ratio{Num: -a.Den, Den: -a.Num}
	}
	return ratio{Num: a.Den, Den: a.Num}
}

func (a ratio) plus(b ratio) (api.Frac, api.Errno) {
	if a.small() && b.small() {
		return Of(a.Num*b.Den+b.Num*a.Den, a.Den*b.Den)
	}
	// Over the least common denominator, all that the numerator can have in common with it are divisors of the part that both denominators share.
	shared := divisor(uint64(a.Den), uint64(b.Den))
	left, right := a.Den/int64(shared), b.Den/int64(shared)
	num := product(a.Num, right).plus(product(b.Num, left))
	common := divisor(num.modulo(shared), shared)
	return fitting(num.over(common), product(left, b.Den/int64(common)))
}

func (a ratio) times(b ratio) (api.Frac, api.Errno) {
	if a.small() && b.small() {
		return Of(a.Num*b.Num, a.Den*b.Den)
	}
	// What is divided out crosswise before is all that the products would have in common.
	one := int64(divisor(magnitude(a.Num), uint64(b.Den)))
	other := int64(divisor(magnitude(b.Num), uint64(a.Den)))
	return fitting(product(a.Num/one, b.Num/other), product(a.Den/other, b.Den/one))
}

// fitting is for a numerator and denominator in lowest terms.
func fitting(num, den wide) (api.Frac, api.Errno) {
	if !num.fits() || !den.fits() {
		return api.Frac{}, api.ErrLimit
	}
	return api.Frac{Num: num.number(), Den: den.number()}, api.OK
}
