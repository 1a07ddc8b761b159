package integral

import (
	"testing"

	"querylab/api"
	"querylab/linear"
)

// whatever returns bounds that a lattice does not depend on.
func whatever(n int) []int64 {
	return make([]int64, n)
}

// unbounded says whether a system of two variables has a solution over the integers from -20 to 20.
func unbounded(s api.System) bool {
	for x := int64(-20); x <= 20; x++ {
		for y := int64(-20); y <= 20; y++ {
			solved := true
			for i, row := range s.Rows {
				solved = solved && row[0]*x+row[1]*y == s.Right[i]
			}
			if solved {
				return true
			}
		}
	}
	return false
}

// All systems with two variables and two rows of small numbers: a solution has numbers up to 20, if there is one.
func TestLatticeOfAllSmallSystems(t *testing.T) {
	count := map[bool]int{}
	for code := range 6 * 6 * 6 * 6 * 5 * 5 {
		next := func(n int) int64 {
			digit := code % n
			code /= n
			return int64(digit)
		}
		s := system(whatever(2), []int64{next(5) - 2, next(5) - 1}, []int64{next(6) - 2, next(6) - 3}, []int64{next(6) - 2, next(6) - 1})
		want := !unbounded(s)
		if got := linear.CheckLattice(s, latticeMultipliers(s)); got != want {
			t.Fatalf("%v: %v", s, got)
		}
		count[want]++
	}
	if count[true] < 10000 || count[false] < 10000 {
		t.Errorf("outcomes: %v", count)
	}
}

// disguised makes a system of equations d x = r that are disguised by sums of rows, and of columns.
func (m maker) disguised(d, r []int64, variables, steps int) api.System {
	s := system(whatever(variables), append([]int64{}, r...))
	for i := range d {
		s.Rows = append(s.Rows, make([]int64, variables))
		s.Rows[i][i] = d[i]
	}
	for range steps {
		a, b, n := m.IntN(len(d)), m.IntN(len(d)), m.among(-1, 1)
		for v := range variables {
			if a != b {
				s.Rows[a][v] += n * s.Rows[b][v]
			}
		}
		if a != b {
			s.Right[a] += n * s.Right[b]
		}
		v, w := m.IntN(variables), m.IntN(variables)
		for _, row := range s.Rows {
			if v != w {
				row[v] += n * row[w]
			}
		}
	}
	return s
}

func TestLatticeOfDisguisedSystems(t *testing.T) {
	r := newMaker(12)
	count := map[bool]int{}
	for range 5000 {
		var d, right []int64
		want := false
		for range 1 + r.IntN(7) {
			d = append(d, []int64{0, 1, 1, 1, 2, 3, 6, 10}[r.IntN(8)])
			k := len(d) - 1
			right = append(right, r.among(-5, 5)*d[k])
			if r.IntN(7) == 0 {
				right[k] = r.among(-9, 9)
			}
			want = want || d[k] == 0 && right[k] != 0 || d[k] > 0 && right[k]%d[k] != 0
		}
		s := r.disguised(d, right, len(d)+r.IntN(4), r.IntN(9)*len(d))
		if got := linear.CheckLattice(s, latticeMultipliers(s)); got != want {
			t.Fatalf("%v x = %v, as %v: %v", d, right, s, got)
		}
		count[want]++
	}
	if count[true] < 1000 || count[false] < 1000 {
		t.Errorf("outcomes: %v", count)
	}
}

// The numbers of many rows stay small.
func TestLatticeOfManyRows(t *testing.T) {
	r := newMaker(16)
	for range 30 {
		var d, right []int64
		for range 24 {
			d = append(d, r.among(1, 3))
			right = append(right, r.among(-5, 5)*d[len(d)-1])
		}
		s := r.disguised(d, right, 30, 4*len(d))
		if linear.CheckLattice(s, latticeMultipliers(s)) {
			t.Fatalf("%v x = %v, as %v: there is a solution", d, right, s)
		}
		d[12], right[12] = 2, 1
		s = r.disguised(d, right, 30, 4*len(d))
		if !linear.CheckLattice(s, latticeMultipliers(s)) {
			t.Fatalf("%v x = %v, as %v: there is no solution", d, right, s)
		}
	}
}

func TestLatticeOfTables(t *testing.T) {
	for n := 2; n <= 7; n++ {
		for _, last := range []int64{0, 1, 500} {
			s := tables(n, 1000, last)
			if linear.CheckLattice(s, latticeMultipliers(s)) {
				t.Errorf("%d tables, %d rows: there is a solution", n, last)
			}
			even := make([]int64, len(s.Upper))
			even[0], even[2*n-2] = 2, -2 // which is not 1
			s.Rows, s.Right = append(s.Rows, even), append(s.Right, 1)
			if !linear.CheckLattice(s, latticeMultipliers(s)) {
				t.Errorf("%d tables, %d rows: there is no solution", n, last)
			}
		}
	}
}

// In a row the numbers do not grow.
func TestLatticeOfOneRow(t *testing.T) {
	r := newMaker(13)
	for range 2000 {
		d := r.among(2, 1000)
		s := system(whatever(1+r.IntN(api.MaxVars)), []int64{d*r.among(0, api.MaxSummary/d-1) + r.among(0, 1)})
		row := make([]int64, len(s.Upper))
		for v := range row {
			row[v] = d * r.among(-api.MaxCoef/d, api.MaxCoef/d)
		}
		row[r.IntN(len(row))] = d
		s.Rows = [][]int64{row}
		if got := linear.CheckLattice(s, latticeMultipliers(s)); got != (s.Right[0]%d != 0) {
			t.Fatalf("%v: %v", s, got)
		}
	}
}

// Where numbers become too large, there may be no multipliers.
func TestLatticeOfLargeNumbers(t *testing.T) {
	r := newMaker(14)
	none, found := 0, 0
	for range 500 {
		s := api.System{Upper: []int64{9, 9, 9, 9, 9, 9, 9, 9}[:1+r.IntN(8)]}
		x := r.point(s.Upper)
		for range 1 + r.IntN(8) {
			row := r.point([]int64{api.MaxCoef, api.MaxCoef, api.MaxCoef, api.MaxCoef, api.MaxCoef, api.MaxCoef, api.MaxCoef, api.MaxCoef}[:len(x)])
			s.Rows, s.Right = append(s.Rows, row), append(s.Right, dot(row, x))
		}
		if m := latticeMultipliers(s); linear.CheckLattice(s, m) {
			t.Fatalf("%v: %v is a solution, %v no proof", s, x, m)
		}
		s.Right[r.IntN(len(s.Right))] += 1
		m := latticeMultipliers(s)
		switch {
		case len(m) == 0:
			none++
		case linear.CheckLattice(s, m):
			found++
		}
	}
	if none < 100 || found < 20 {
		t.Errorf("none %d, found %d", none, found)
	}
}
