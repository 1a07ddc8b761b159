package linear

import (
	"cmp"
	"math/bits"
	"slices"
)

// A natural is a number from 0 on of any size: its words, the least significant one first, without zeros at the end. The words are never changed, so that several naturals may share them.
type natural []uint64

func trimmed(words []uint64) natural {
	for len(words) > 0 && words[len(words)-1] == 0 {
		words = words[:len(words)-1]
	}
	return words
}

func (a natural) word(i int) uint64 {
	if i < len(a) {
		return a[i]
	}
	return 0
}

func (a natural) compare(b natural) int {
	if len(a) != len(b) {
		return cmp.Compare(len(a), len(b))
	}
	for i := len(a) - 1; i >= 0; i-- {
		if a[i] != b[i] {
			return cmp.Compare(a[i], b[i])
		}
	}
	return 0
}

func (a natural) plus(b natural) natural {
	total := make([]uint64, max(len(a), len(b))+1)
	var carry uint64
	for i := range total {
		total[i], carry = bits.Add64(a.word(i), b.word(i), carry)
	}
	return trimmed(total)
}

// minus is for a number that is at most a.
func (a natural) minus(b natural) natural {
	rest := slices.Clone(a)
	var borrow uint64
	for i := range rest {
		rest[i], borrow = bits.Sub64(rest[i], b.word(i), borrow)
	}
	return trimmed(rest)
}

func (a natural) times(n uint64) natural {
	if n == 1 {
		return a
	}
	product := make([]uint64, len(a)+1)
	for i, word := range a {
		high, low := bits.Mul64(word, n)
		var carry uint64
		product[i], carry = bits.Add64(product[i], low, 0)
		product[i+1] = high + carry
	}
	return trimmed(product)
}

// timesAll multiplies word by word, beginning with the most significant one.
func (a natural) timesAll(b natural) natural {
	var product natural
	for i := len(b) - 1; i >= 0; i-- {
		product = trimmed(append(natural{0}, product...)).plus(a.times(b[i]))
	}
	return product
}

// over returns the quotient, rounded down, and the remainder.
func (a natural) over(n uint64) (natural, uint64) {
	if n == 1 {
		return a, 0
	}
	quotient := make([]uint64, len(a))
	var rest uint64
	for i := len(a) - 1; i >= 0; i-- {
		quotient[i], rest = bits.Div64(rest, a[i], n)
	}
	return trimmed(quotient), rest
}

// shared returns the greatest common divisor of a and n, which is not 0.
func (a natural) shared(n uint64) uint64 {
	_, rest := a.over(n)
	return divisor(n, rest)
}

// divisor returns the greatest common divisor of two numbers that are not both 0.
func divisor(a, b uint64) uint64 {
	for b != 0 {
		a, b = b, a%b
	}
	return a
}
