package linear

import (
	"math"
	"math/big"
	"math/rand/v2"
	"testing"

	"querylab/api"
)

// A maker makes numbers among which those at the limits, carries and common divisors are frequent.
type maker struct{ *rand.Rand }

func newMaker(seed uint64) maker {
	return maker{rand.New(rand.NewPCG(seed, 11))}
}

// among returns a number from least to most, often one near to these or to 0.
func (m maker) among(least, most int64) int64 {
	switch m.IntN(5) {
	case 0:
		return least
	case 1:
		return most
	case 2:
		return max(least, min(most, m.Int64N(7)-3))
	}
	return least + m.Int64N(most-least+1)
}

func (m maker) sign() int64 {
	return 1 - 2*m.Int64N(2)
}

// positive returns a number from 1 to MaxFrac.
func (m maker) positive() int64 {
	switch m.IntN(5) {
	case 0:
		return 1 + m.Int64N(12)
	case 1:
		return most - m.Int64N(30)
	case 2:
		return 1 + m.Int64N(1<<m.IntN(57))
	}
	n := int64(1)
	for m.IntN(30) > 0 {
		if p := []int64{2, 3, 5, 7, 11, 1009, 46337}[m.IntN(7)]; n <= most/p {
			n *= p
		}
	}
	return n
}

// fraction returns a valid one.
func (m maker) fraction() api.Frac {
	if m.IntN(9) == 0 {
		return frac(0, 1)
	}
	f, _ := lowest(big.NewRat(m.sign()*m.positive(), m.positive()))
	return f
}

func (m maker) natural() natural {
	var words []uint64
	for range m.IntN(5) {
		words = append(words, []uint64{0, 1, math.MaxUint64, math.MaxUint64 - 1, 1 << 63, m.Uint64(), m.Uint64() >> m.IntN(64)}[m.IntN(7)])
	}
	return trimmed(words)
}

func value(a natural) *big.Int {
	all := new(big.Int)
	for i := len(a) - 1; i >= 0; i-- {
		all.Add(all.Lsh(all, 64), new(big.Int).SetUint64(a[i]))
	}
	return all
}

func (a integer) value() *big.Int {
	if a.negative {
		return new(big.Int).Neg(value(a.size))
	}
	return value(a.size)
}

func (s sum) value() *big.Rat {
	return new(big.Rat).SetFrac(s.num.value(), value(s.den))
}

// checkNatural also checks that there are no zeros at the end.
func checkNatural(t *testing.T, name string, got natural, want *big.Int) {
	t.Helper()
	if value(got).Cmp(want) != 0 || len(got) > 0 && got[len(got)-1] == 0 {
		t.Fatalf("%s: %v, and not %s", name, got, want)
	}
}

func TestNaturals(t *testing.T) {
	r := newMaker(1)
	for range 20000 {
		a, b := r.natural(), r.natural()
		n := []uint64{1, 2, 3, math.MaxUint64, 1 << 63, r.Uint64() | 1}[r.IntN(6)]
		x, y, z := value(a), value(b), new(big.Int).SetUint64(n)
		checkNatural(t, "plus", a.plus(b), new(big.Int).Add(x, y))
		checkNatural(t, "times", a.times(n), new(big.Int).Mul(x, z))
		checkNatural(t, "times 0", a.times(0), new(big.Int))
		checkNatural(t, "timesAll", a.timesAll(b), new(big.Int).Mul(x, y))
		if a.compare(b) != x.Cmp(y) || a.compare(a) != 0 {
			t.Fatalf("%v and %v: %d", a, b, a.compare(b))
		}
		if x.Cmp(y) >= 0 {
			checkNatural(t, "minus", a.minus(b), new(big.Int).Sub(x, y))
		}
		quotient, rest := a.over(n)
		whole, part := new(big.Int).QuoRem(x, z, new(big.Int))
		checkNatural(t, "over", quotient, whole)
		if rest != part.Uint64() || a.shared(n) != new(big.Int).GCD(nil, nil, x, z).Uint64() {
			t.Fatalf("%v and %d: %d, %d", a, n, rest, a.shared(n))
		}
		if value(a).Cmp(x) != 0 || value(b).Cmp(y) != 0 {
			t.Fatal("a natural has changed")
		}
	}
}

func TestIntegers(t *testing.T) {
	r := newMaker(2)
	for range 20000 {
		a, b := integer{r.IntN(2) == 0, r.natural()}, integer{r.IntN(2) == 0, r.natural()}
		n := []int64{0, 1, -1, math.MinInt64, math.MaxInt64, int64(r.Uint64())}[r.IntN(6)]
		x, y := a.value(), b.value()
		if got, want := a.plus(b).value(), new(big.Int).Add(x, y); got.Cmp(want) != 0 {
			t.Fatalf("%s + %s is %s", x, y, got)
		}
		if got, want := a.times(n).value(), new(big.Int).Mul(x, big.NewInt(n)); got.Cmp(want) != 0 {
			t.Fatalf("%s * %d is %s", x, n, got)
		}
		if a.sign() != x.Sign() || a.plus(integer{!a.negative, a.size}).sign() != 0 {
			t.Fatalf("%s has the sign %d", x, a.sign())
		}
		if n != 0 && a.times(n).over(magnitude(n)).size.compare(a.size) != 0 {
			t.Fatalf("%s * %d / %d is another number", x, n, n)
		}
	}
}

func TestSums(t *testing.T) {
	r := newMaker(3)
	fractions := 0
	for range 5000 {
		var numbers []int64
		var list []api.Frac
		for range 1 + r.IntN(8) {
			numbers = append(numbers, r.among(-api.MaxSummary, api.MaxSummary))
			list = append(list, r.fraction())
		}
		if r.IntN(2) == 0 { // all but one number cancel
			for k := range numbers[1:] {
				numbers, list = append(numbers, -numbers[k]), append(list, list[k])
			}
		}
		got, want := total(numbers, list), dot(numbers, list)
		checkSum(t, got, want)
		if f, ok := lowest(want); ok {
			fractions++
			if got.compare(f) != 0 {
				t.Fatalf("%s is not %v", want, f)
			}
		}
		f := r.fraction()
		if got.compare(f) != want.Cmp(rational(f)) {
			t.Fatalf("%s and %v: %d", want, f, got.compare(f))
		}
		checkSum(t, product(list[0], f), new(big.Rat).Mul(rational(list[0]), rational(f)))
	}
	if fractions < 1000 || fractions > 4000 {
		t.Errorf("%d sums were fractions", fractions)
	}
}

func checkSum(t *testing.T, got sum, want *big.Rat) {
	t.Helper()
	if got.value().Cmp(want) != 0 || value(got.den).Cmp(want.Denom()) != 0 || value(got.num.size).CmpAbs(want.Num()) != 0 {
		t.Fatalf("%v, and not %s", got, want)
	}
	f, ok := got.fraction()
	if g, o := lowest(want); f != g || ok != o {
		t.Fatalf("%s is %v, %v", want, f, ok)
	}
}
