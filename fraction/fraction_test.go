package fraction

import (
	"math"
	"testing"

	"querylab/api"
)

const most = api.MaxFrac

func frac(num, den int64) api.Frac {
	return api.Frac{Num: num, Den: den}
}

var (
	none = api.Frac{}
	zero = frac(0, 1)
	one  = frac(1, 1)
	half = frac(1, 2)
	huge = frac(most, 1)
	tiny = frac(1, most)
)

// invalid lists fractions that are not valid: for each clause alone, and with numbers whose product, sum, sign or inverse would not be noticed.
func invalid() []api.Frac {
	return []api.Frac{
		{}, frac(1, 0), frac(-1, 0), frac(most, 0), frac(math.MinInt64, 0),
		frac(1, -1), frac(1, -2), frac(-1, -2), frac(0, -1), frac(-2, math.MinInt64), frac(1, math.MinInt64), frac(1, -most),
		frac(2, 2), frac(2, 4), frac(-2, 4), frac(9, 6), frac(0, 2), frac(0, most), frac(most, most), frac(-most, 10), frac(3*3037000493, 3037000493),
		frac(most+1, 1), frac(-most-1, 1), frac(math.MaxInt64, 1), frac(math.MinInt64, 1), frac(-math.MaxInt64, 3), frac(math.MinInt64, 3),
		frac(1, most+1), frac(0, most+1), frac(-1, math.MaxInt64), frac(math.MinInt64, math.MinInt64), frac(math.MinInt64, math.MaxInt64),
		frac(1<<32, 1<<32), frac(1<<32+2, 2), frac(2*most, 2), frac(most+3, most+1),
	}
}

func TestValidCases(t *testing.T) {
	for _, a := range []api.Frac{
		zero, one, half, frac(-1, 1), frac(-1, 2), frac(3, 2), frac(9, 4), frac(-25, 36),
		huge, frac(-most, 1), tiny, frac(-1, most), frac(most, most-1), frac(-most, most-1), frac(most-1, most), frac(1<<32, 1<<32+1),
	} {
		if !Valid(a) {
			t.Errorf("%v is not valid", a)
		}
	}
	for _, a := range invalid() {
		if Valid(a) {
			t.Errorf("%v is valid", a)
		}
	}
}

func TestOfCases(t *testing.T) {
	for _, c := range []struct {
		num, den int64
		want     api.Frac
		err      api.Errno
	}{
		{1, 2, half, api.OK},
		{2, 4, half, api.OK},
		{6, -4, frac(-3, 2), api.OK},
		{-6, 4, frac(-3, 2), api.OK},
		{-6, -4, frac(3, 2), api.OK},
		{0, 1, zero, api.OK},
		{0, -7, zero, api.OK},
		{0, math.MinInt64, zero, api.OK},
		{0, most + 1, zero, api.OK},
		{0, 0, none, api.ErrInvalid},
		{1, 0, none, api.ErrInvalid},
		{math.MaxInt64, 0, none, api.ErrInvalid},
		{math.MinInt64, 0, none, api.ErrInvalid},
		{most, 1, huge, api.OK},
		{-most, 1, frac(-most, 1), api.OK},
		{most, -1, frac(-most, 1), api.OK},
		{1, most, tiny, api.OK},
		{1, -most, frac(-1, most), api.OK},
		{most, most, one, api.OK},
		{most + 1, 1, none, api.ErrLimit},
		{-most - 1, 1, none, api.ErrLimit},
		{1, most + 1, none, api.ErrLimit},
		{1, -most - 1, none, api.ErrLimit},
		{most + 1, most, none, api.ErrLimit},
		{most, most + 1, none, api.ErrLimit},
		{2 * most, 2, huge, api.OK},
		{2*most + 2, 2, none, api.ErrLimit},
		{-2, 2 * most, frac(-1, most), api.OK},
		{92 * most, -92 * most, frac(-1, 1), api.OK},
		{math.MaxInt64, math.MaxInt64, one, api.OK},
		{math.MinInt64, math.MinInt64, one, api.OK},
		{math.MaxInt64, math.MinInt64, none, api.ErrLimit},
		{math.MinInt64, 1 << 62, frac(-2, 1), api.OK},
		{1 << 62, math.MinInt64, frac(-1, 2), api.OK},
		{math.MinInt64, -(1 << 62), frac(2, 1), api.OK},
		{math.MinInt64, 1, none, api.ErrLimit},
		{math.MinInt64, -1, none, api.ErrLimit},
		{1, math.MinInt64, none, api.ErrLimit},
		{math.MinInt64, 3 << 6, none, api.ErrLimit},
		{math.MinInt64, 3 << 7, frac(-1<<56, 3), api.OK},
	} {
		if got, err := Of(c.num, c.den); got != c.want || err != c.err {
			t.Errorf("Of(%d, %d) is %v, %d", c.num, c.den, got, err)
		}
	}
}

type operation func(a, b api.Frac) (api.Frac, api.Errno)

// operations are in the order add, sub, mul, div.
func operations() []operation {
	return []operation{Add, Sub, Mul, Div}
}

const (
	add = iota
	sub
	mul
	div
)

func TestOperationCases(t *testing.T) {
	for _, c := range []struct {
		op   int
		a, b api.Frac
		want api.Frac
		err  api.Errno
	}{
		{add, half, half, one, api.OK},
		{add, half, frac(-1, 3), frac(1, 6), api.OK},
		{add, frac(1, 6), frac(1, 10), frac(4, 15), api.OK},
		{add, zero, zero, zero, api.OK},
		{add, huge, frac(-most, 1), zero, api.OK},
		{add, huge, one, none, api.ErrLimit},
		{add, huge, half, none, api.ErrLimit},
		{add, frac(most-1, 1), one, huge, api.OK},
		{add, frac(1-most, 1), frac(-1, 1), frac(-most, 1), api.OK},
		{add, frac(-most, 1), frac(-1, 1), none, api.ErrLimit},
		{add, huge, huge, none, api.ErrLimit},
		{add, frac(most-1, most), tiny, one, api.OK},
		{add, tiny, tiny, frac(1, most/2), api.OK},
		{add, tiny, frac(1, most-1), none, api.ErrLimit},
		{add, huge, tiny, none, api.ErrLimit},
		{add, frac(most-1, 2), half, frac(most/2, 1), api.OK},
		{add, frac(most-1, 2), frac(most-1, 2), frac(most-1, 1), api.OK},
		{sub, half, half, zero, api.OK},
		{sub, half, frac(-1, 3), frac(5, 6), api.OK},
		{sub, zero, half, frac(-1, 2), api.OK},
		{sub, zero, huge, frac(-most, 1), api.OK},
		{sub, huge, huge, zero, api.OK},
		{sub, tiny, tiny, zero, api.OK},
		{sub, huge, one, frac(most-1, 1), api.OK},
		{sub, frac(-most, 1), one, none, api.ErrLimit},
		{sub, huge, frac(-1, 1), none, api.ErrLimit},
		{sub, one, tiny, frac(most-1, most), api.OK},
		{sub, frac(most, most-1), frac(most-1, most), none, api.ErrLimit},
		{mul, half, frac(-2, 3), frac(-1, 3), api.OK},
		{mul, zero, huge, zero, api.OK},
		{mul, tiny, zero, zero, api.OK},
		{mul, huge, tiny, one, api.OK},
		{mul, frac(-most, 1), frac(-1, most), one, api.OK},
		{mul, frac(-most, 1), tiny, frac(-1, 1), api.OK},
		{mul, huge, half, frac(most/2, 1), api.OK},
		{mul, frac(most/2, 1), frac(2, 1), huge, api.OK},
		{mul, frac(most/2, 1), frac(3, 1), none, api.ErrLimit},
		{mul, huge, huge, none, api.ErrLimit},
		{mul, tiny, tiny, none, api.ErrLimit},
		{mul, tiny, half, none, api.ErrLimit},
		{mul, frac(most, most-1), frac(most-1, most), one, api.OK},
		{mul, frac(1<<32, 1), frac(1<<32, 1), none, api.ErrLimit}, // 2^64 is 0 in an int64
		{mul, frac(1, 1<<32), frac(1, 1<<32), none, api.ErrLimit},
		{div, half, frac(-1, 3), frac(-3, 2), api.OK},
		{div, frac(-2, 3), frac(-4, 9), frac(3, 2), api.OK},
		{div, zero, frac(-5, 7), zero, api.OK},
		{div, zero, huge, zero, api.OK},
		{div, one, huge, tiny, api.OK},
		{div, frac(-1, 1), tiny, frac(-most, 1), api.OK},
		{div, one, frac(-most, 1), frac(-1, most), api.OK},
		{div, huge, huge, one, api.OK},
		{div, tiny, tiny, one, api.OK},
		{div, huge, half, none, api.ErrLimit},
		{div, huge, tiny, none, api.ErrLimit},
		{div, half, huge, none, api.ErrLimit},
		{div, half, zero, none, api.ErrInvalid},
		{div, zero, zero, none, api.ErrInvalid},
		{div, huge, zero, none, api.ErrInvalid},
	} {
		if got, err := operations()[c.op](c.a, c.b); got != c.want || err != c.err {
			t.Errorf("operation %d of %v and %v is %v, %d", c.op, c.a, c.b, got, err)
		}
	}
}

func TestOperationsOfInvalidFractions(t *testing.T) {
	others := append(invalid(), zero, one, half, frac(-2, 3), huge, tiny, frac(-most, most-1))
	for k, do := range operations() {
		for _, a := range invalid() {
			for _, b := range others {
				if got, err := do(a, b); got != none || err != api.ErrInvalid {
					t.Errorf("operation %d of %v and %v is %v, %d", k, a, b, got, err)
				}
				if got, err := do(b, a); got != none || err != api.ErrInvalid {
					t.Errorf("operation %d of %v and %v is %v, %d", k, b, a, got, err)
				}
			}
		}
	}
}

func TestCompareCases(t *testing.T) {
	ascending := []api.Frac{
		frac(-most, 1), frac(1-most, 1), frac(-most, most-1), frac(-1, 1), frac(1-most, most), frac(-1, 2), frac(-1, 3), frac(-1, most-1), frac(-1, most),
		zero, tiny, frac(1, most-1), frac(1, 3), half, frac(most-2, most-1), frac(most-1, most), one, frac(most, most-1), frac(most-1, most-2), frac(3, 2),
		frac(1<<32, 1), frac(1<<32+1, 1), frac(most-1, 1), huge,
	}
	for i, a := range ascending {
		for k, b := range ascending {
			want := 0
			if i < k {
				want = -1
			} else if i > k {
				want = 1
			}
			if got := Compare(a, b); got != want {
				t.Errorf("Compare(%v, %v) is %d", a, b, got)
			}
		}
		for _, b := range invalid() {
			if Compare(a, b) != 0 || Compare(b, a) != 0 {
				t.Errorf("%v and %v are compared", a, b)
			}
		}
	}
	for _, a := range invalid() {
		for _, b := range invalid() {
			if Compare(a, b) != 0 {
				t.Errorf("%v and %v are compared", a, b)
			}
		}
	}
}

func TestFloorAndTextCases(t *testing.T) {
	for _, c := range []struct {
		a     api.Frac
		floor int64
		text  string
	}{
		{zero, 0, "0"},
		{one, 1, "1"},
		{half, 0, "1/2"},
		{frac(-1, 2), -1, "-1/2"},
		{frac(3, 2), 1, "3/2"},
		{frac(-3, 2), -2, "-3/2"},
		{frac(-4, 1), -4, "-4"},
		{frac(-10, 3), -4, "-10/3"},
		{frac(-11, 3), -4, "-11/3"},
		{frac(-13, 3), -5, "-13/3"},
		{frac(11, 3), 3, "11/3"},
		{huge, most, "100000000000000000"},
		{frac(-most, 1), -most, "-100000000000000000"},
		{tiny, 0, "1/100000000000000000"},
		{frac(-1, most), -1, "-1/100000000000000000"},
		{frac(most-1, most), 0, "99999999999999999/100000000000000000"},
		{frac(-most, most-1), -2, "-100000000000000000/99999999999999999"},
		{frac(1-most, 2), -most / 2, "-99999999999999999/2"},
	} {
		if Floor(c.a) != c.floor || Text(c.a) != c.text {
			t.Errorf("%v: %d, %s", c.a, Floor(c.a), Text(c.a))
		}
	}
	for _, a := range invalid() {
		if Floor(a) != 0 || Text(a) != "?" {
			t.Errorf("%v: %d, %s", a, Floor(a), Text(a))
		}
	}
}
