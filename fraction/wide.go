package fraction

import (
	"cmp"
	"math/bits"

	"querylab/api"
)

// A wide is a number of 128 bits in two's complement: sums of two products of numbers up to MaxFrac fit into it.
type wide struct{ high, low uint64 }

func product(a, b int64) wide {
	high, low := bits.Mul64(uint64(a), uint64(b))
	// As an unsigned number, a negative one is greater by 1<<64.
	if a < 0 {
		high -= uint64(b)
	}
	if b < 0 {
		high -= uint64(a)
	}
	return wide{high, low}
}

func (a wide) plus(b wide) wide {
	low, carry := bits.Add64(a.low, b.low, 0)
	high, _ := bits.Add64(a.high, b.high, carry)
	return wide{high, low}
}

func (a wide) negative() bool {
	return int64(a.high) < 0
}

func (a wide) negated() wide {
	return wide{^a.high, ^a.low}.plus(wide{0, 1})
}

func (a wide) compare(b wide) int {
	return cmp.Or(cmp.Compare(int64(a.high), int64(b.high)), cmp.Compare(a.low, b.low))
}

func (a wide) magnitude() wide {
	if a.negative() {
		return a.negated()
	}
	return a
}

// modulo returns the remainder of the magnitude.
func (a wide) modulo(n uint64) uint64 {
	m := a.magnitude()
	return bits.Rem64(m.high, m.low, n)
}

// over divides by a divisor of the number.
func (a wide) over(n uint64) wide {
	m := a.magnitude()
	low, _ := bits.Div64(m.high%n, m.low, n)
	quotient := wide{m.high / n, low}
	if a.negative() {
		return quotient.negated()
	}
	return quotient
}

func (a wide) fits() bool {
	return a.compare(product(-api.MaxFrac, 1)) >= 0 && a.compare(product(api.MaxFrac, 1)) <= 0
}

// number returns one that fits.
func (a wide) number() int64 {
	return int64(a.low)
}
