package fraction

import (
	"math"
	"math/big"
	"math/rand/v2"
	"testing"

	"querylab/api"
)

// A maker makes numbers and fractions among which results at the limits, and common divisors of all sizes, are frequent.
type maker struct{ *rand.Rand }

func newMaker(seed uint64) maker {
	return maker{rand.New(rand.NewPCG(seed, 10))}
}

// positive returns a number from 1 to MaxFrac.
func (m maker) positive() int64 {
	switch m.IntN(7) {
	case 0:
		return 1 + m.Int64N(12)
	case 1:
		return most - m.Int64N(3)
	case 2:
		return 1<<31 - 3 + m.Int64N(6)
	case 3:
		return 1<<32 - 3 + m.Int64N(6)
	case 4:
		return 1 + m.Int64N(most)
	case 5:
		return 1 + m.Int64N(1<<m.IntN(57))
	}
	n := int64(1)
	for m.IntN(30) > 0 {
		if p := []int64{2, 3, 5, 7, 11, 1009, 46337}[m.IntN(7)]; n <= most/p {
			n *= p
		}
	}
	return n
}

// any returns any int64.
func (m maker) any() int64 {
	switch m.IntN(5) {
	case 0:
		return m.positive() * (1 + m.Int64N(92))
	case 1:
		return -m.positive() * (1 + m.Int64N(92))
	case 2:
		return math.MinInt64 + m.Int64N(3)
	case 3:
		return m.Int64N(9) - 4
	}
	return int64(m.Uint64())
}

// fraction returns a valid one.
func (m maker) fraction() api.Frac {
	if m.IntN(20) == 0 {
		return zero
	}
	r := big.NewRat(m.positive(), m.positive())
	if m.IntN(2) == 0 {
		r.Neg(r)
	}
	a, _ := lowest(r)
	return a
}

// pair returns two valid fractions, often such that a sum, difference, product or quotient of them is another valid one.
func (m maker) pair() (api.Frac, api.Frac) {
	a, r := rational(m.fraction()), rational(m.fraction())
	b := new(big.Rat)
	switch m.IntN(7) {
	case 0:
		b.Sub(r, a)
	case 1:
		b.Sub(a, r)
	case 2:
		b.SetFrac(r.Num(), a.Denom())
	case 3:
		b.SetFrac(a.Denom(), r.Denom())
	default:
		b.Set(r)
	}
	result, err := lowest(b)
	if err != api.OK {
		result = m.fraction()
	}
	first, _ := lowest(a)
	return first, result
}

func rational(a api.Frac) *big.Rat {
	return big.NewRat(a.Num, a.Den)
}

// lowest returns a number in lowest terms by the words of the chapter.
func lowest(r *big.Rat) (api.Frac, api.Errno) {
	limit := big.NewInt(most)
	if r.Num().CmpAbs(limit) > 0 || r.Denom().Cmp(limit) > 0 {
		return none, api.ErrLimit
	}
	return frac(r.Num().Int64(), r.Denom().Int64()), api.OK
}

func TestValidTriesAllDivisors(t *testing.T) {
	for num := int64(-40); num <= 40; num++ {
		for den := int64(-40); den <= 40; den++ {
			want := den >= 1
			for d := int64(2); d <= 40; d++ {
				want = want && (num%d != 0 || den%d != 0)
			}
			if Valid(frac(num, den)) != want {
				t.Errorf("%d/%d: %v", num, den, !want)
			}
		}
	}
}

func TestAnyNumbers(t *testing.T) {
	m := newMaker(1)
	valid, limit := 0, 0
	for range 200000 {
		a := frac(m.any(), m.any())
		want, err := none, api.ErrInvalid
		if a.Den != 0 {
			want, err = lowest(rational(a))
		}
		if got, e := Of(a.Num, a.Den); got != want || e != err {
			t.Fatalf("Of(%d, %d) is %v, %d", a.Num, a.Den, got, e)
		}
		if Valid(a) != (err == api.OK && a == want) {
			t.Fatalf("%v: Valid is %v", a, Valid(a))
		}
		if Valid(a) {
			valid++
		} else if Text(a) != "?" || Floor(a) != 0 || Compare(a, one) != 0 || Compare(one, a) != 0 {
			t.Fatalf("%v is taken for valid", a)
		}
		if err == api.ErrLimit {
			limit++
		}
	}
	if valid < 2000 || limit < 2000 {
		t.Errorf("%d were valid, %d beyond the limit", valid, limit)
	}
}

// references are the operations in the same order, of arbitrary size.
func references() []func(r, a, b *big.Rat) *big.Rat {
	return []func(r, a, b *big.Rat) *big.Rat{(*big.Rat).Add, (*big.Rat).Sub, (*big.Rat).Mul, (*big.Rat).Quo}
}

func checkPair(t *testing.T, a, b api.Frac, count map[api.Errno]int) {
	t.Helper()
	x, y := rational(a), rational(b)
	for k, do := range operations() {
		want, err := none, api.ErrInvalid
		if k != div || b.Num != 0 {
			want, err = lowest(references()[k](new(big.Rat), x, y))
		}
		if got, e := do(a, b); got != want || e != err {
			t.Fatalf("operation %d of %v and %v is %v, %d, and not %v, %d", k, a, b, got, e, want, err)
		}
		count[err]++
	}
	if got := Compare(a, b); got != x.Cmp(y) {
		t.Fatalf("Compare(%v, %v) is %d", a, b, got)
	}
}

func TestSmallFractions(t *testing.T) {
	var all []api.Frac
	for num := int64(-12); num <= 12; num++ {
		for den := int64(1); den <= 12; den++ {
			if a := frac(num, den); Valid(a) {
				all = append(all, a)
			}
		}
	}
	count := map[api.Errno]int{}
	for _, a := range all {
		for _, b := range all {
			checkPair(t, a, b, count)
		}
	}
	if count[api.ErrLimit] > 0 || count[api.ErrInvalid] != len(all) {
		t.Errorf("errors: %v", count)
	}
}

func TestAnyFractions(t *testing.T) {
	m := newMaker(2)
	count := map[api.Errno]int{}
	for range 100000 {
		a, b := m.pair()
		checkPair(t, a, b, count)
	}
	if count[api.OK] < 100000 || count[api.ErrLimit] < 100000 {
		t.Errorf("outcomes: %v", count)
	}
}

// atTheEdge lists numbers at which products and sums of products cease to fit into 63, 64, 113 and 114 bits.
func atTheEdge() []int64 {
	return []int64{1, 2, 3, 1<<31 - 2, 1<<31 - 1, 1 << 31, 1<<31 + 1, 1<<32 - 1, 1 << 32, 1<<32 + 1, 3037000499, 3037000500, 1 << 56, 1<<56 + 1, most - 2, most - 1, most}
}

func TestFractionsAtTheEdge(t *testing.T) {
	var all []api.Frac
	for _, num := range atTheEdge() {
		for _, den := range atTheEdge() {
			for _, sign := range []int64{-1, 1} {
				if a := frac(sign*num, den); Valid(a) {
					all = append(all, a)
				}
			}
		}
	}
	for _, a := range all {
		for _, b := range all {
			checkPair(t, a, b, map[api.Errno]int{})
		}
	}
}

func TestFloorAndTextOfAnyFractions(t *testing.T) {
	m := newMaker(3)
	for range 100000 {
		a := m.fraction()
		floor := new(big.Int).Div(big.NewInt(a.Num), big.NewInt(a.Den)) // rounds down where the divisor is positive
		if Floor(a) != floor.Int64() {
			t.Fatalf("Floor(%v) is %d", a, Floor(a))
		}
		if Text(a) != rational(a).RatString() {
			t.Fatalf("Text(%v) is %s", a, Text(a))
		}
	}
}
