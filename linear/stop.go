package linear

// A stop is where a move of a free variable ends: after num / den, at a bound of the basic variable of a row, or at its own (row -1).
type stop struct {
	num, den natural
	row      int
	bound    int64
}

func (t *tableau) ownStop(column int, up bool) stop {
	bound, _ := t.bound(t.free[column], up)
	return stop{natural{magnitude(bound - t.at[column])}, natural{1}, -1, bound}
}

// stopOf returns false if the variable of a row need not stop.
func (t *tableau) stopOf(row, column int, up bool) (stop, bool) {
	c := t.rows[row][column]
	bound, ok := t.bound(t.basic[row], up == (c.Num > 0))
	if c.Num == 0 || !ok {
		return stop{}, false
	}
	way := t.value(row).plus(-bound, whole(1))
	return stop{way.num.size.times(uint64(c.Den)), way.den.times(magnitude(c.Num)), row, bound}, true
}

// earlier prefers the lowest number among variables that stop at the same time, as Bland's rule does; a variable that arrives at its own bound is before all.
func (t *tableau) earlier(a, b stop) bool {
	order := a.num.timesAll(b.den).compare(b.num.timesAll(a.den))
	return order < 0 || order == 0 && b.row >= 0 && t.basic[a.row] < t.basic[b.row]
}
