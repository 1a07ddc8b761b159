package linear

import (
	"querylab/api"
	"querylab/fraction"
)

// A tableau writes some variables, the basic ones, as sums of the others, the free ones, which are at their bounds. The variables with the lowest numbers stand for the rows of a system: each is the sum of its coefficients times the system's variables, which come behind.
//
// At first all are 0. While the rows are brought to their right sides, none of them goes beyond it, and the system's variables stay between 0 and Upper.
type tableau struct {
	system      api.System
	basic, free []int
	at          []int64      // the values of the free variables
	rows        [][]api.Frac // of each basic variable, the coefficients of the free ones
	gains       []api.Frac   // the coefficients of the free variables in the sum of all rows, those with a negative right side counted negatively
	stuck       bool         // whether the last move changed nothing
}

func newTableau(s api.System) *tableau {
	n := len(s.Upper)
	t := &tableau{system: s, at: make([]int64, n), gains: wholes(make([]int64, n))}
	for i, row := range s.Rows {
		t.basic = append(t.basic, i)
		t.rows = append(t.rows, wholes(row))
		for k, c := range row {
			t.gains[k].Num += c * t.direction(i)
		}
	}
	for k := range n {
		t.free = append(t.free, len(s.Rows)+k)
	}
	return t
}

// direction is that in which a row comes to its right side.
func (t *tableau) direction(row int) int64 {
	if t.system.Right[row] < 0 {
		return -1
	}
	return 1
}

// bound returns where a variable has to stop on its way up or down, and false if it need not.
func (t *tableau) bound(v int, up bool) (int64, bool) {
	if t.isRow(v) {
		return t.system.Right[v], up == (t.direction(v) > 0)
	}
	if up {
		return t.system.Upper[v-len(t.system.Rows)], true
	}
	return 0, true
}

func (t *tableau) isRow(v int) bool {
	return v < len(t.system.Rows)
}

// search moves free variables until all rows are at their right sides, or returns false where that brings them no nearer.
func (t *tableau) search() bool {
	for !t.solved() {
		k := t.helpful()
		if k < 0 {
			return false
		}
		t.move(k)
	}
	return true
}

func (t *tableau) solved() bool {
	for row, v := range t.basic {
		if t.isRow(v) && t.value(row).compare(whole(t.system.Right[v])) != 0 {
			return false
		}
	}
	return true
}

// helpful returns the place of the free variable that moves next, or -1. A row that is free is at its right side, and stays there.
func (t *tableau) helpful() int {
	best := -1
	for k, v := range t.free {
		bound, _ := t.bound(v, t.gains[k].Num > 0)
		if t.gains[k].Num != 0 && t.at[k] != bound && (best < 0 || t.before(k, best)) {
			best = k
		}
	}
	return best
}

// before prefers the greatest gain, but the lowest number after a move that changed nothing: otherwise such moves might go round in a circle (Bland's rule).
func (t *tableau) before(k, other int) bool {
	if t.stuck {
		return t.free[k] < t.free[other]
	}
	return fraction.Compare(absolute(t.gains[k]), absolute(t.gains[other])) > 0
}

// move moves a free variable towards its other bound, until it or a basic variable has to stop.
func (t *tableau) move(column int) {
	up := t.gains[column].Num > 0
	first := t.ownStop(column, up)
	for row := range t.basic {
		if s, ok := t.stopOf(row, column, up); ok && t.earlier(s, first) {
			first = s
		}
	}
	t.stuck = len(first.num) == 0
	t.at[column] = first.bound
	if first.row >= 0 {
		t.exchange(first.row, column)
	}
}

// exchange makes a basic variable free and a free one basic.
func (t *tableau) exchange(row, column int) {
	t.basic[row], t.free[column] = t.free[column], t.basic[row]
	turned := t.rows[row]
	pivot := turned[column]
	turned[column] = whole(-1)
	for k, c := range turned {
		turned[k] = over(negative(c), pivot)
	}
	for i, r := range t.rows {
		if i != row {
			replace(r, column, turned)
		}
	}
	replace(t.gains, column, turned)
}

// replace puts the coefficients of a variable in place of the variable, which one column of row belongs to.
func replace(row []api.Frac, column int, coefficients []api.Frac) {
	factor := row[column]
	if factor.Num == 0 {
		return
	}
	row[column] = whole(0)
	for k, c := range coefficients {
		if c.Num != 0 {
			row[k] = plus(row[k], factor, c)
		}
	}
}

func (t *tableau) value(row int) sum {
	return total(t.at, t.rows[row])
}

func (t *tableau) solution() []api.Frac {
	all := make([]api.Frac, len(t.basic)+len(t.free))
	for k, v := range t.free {
		all[v] = whole(t.at[k])
	}
	for row, v := range t.basic {
		all[v] = fit(t.value(row).fraction())
	}
	return all[len(t.system.Rows):]
}

// multipliers are those with which the rows together have the gains of the system's variables, all of which are where these make the most of them.
func (t *tableau) multipliers() []api.Frac {
	m := make([]api.Frac, len(t.system.Rows))
	for i := range m {
		m[i] = whole(t.direction(i))
	}
	for k, v := range t.free {
		if t.isRow(v) {
			m[v] = plus(m[v], whole(-1), t.gains[k])
		}
	}
	return m
}
