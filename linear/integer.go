package linear

// An integer is a number of any size.
type integer struct {
	negative bool // also where the size is 0, which means nothing
	size     natural
}

func (a integer) sign() int {
	switch {
	case len(a.size) == 0:
		return 0
	case a.negative:
		return -1
	}
	return 1
}

func (a integer) plus(b integer) integer {
	if a.negative == b.negative {
		return integer{a.negative, a.size.plus(b.size)}
	}
	if a.size.compare(b.size) < 0 {
		a, b = b, a
	}
	return integer{a.negative, a.size.minus(b.size)}
}

func (a integer) times(n int64) integer {
	return integer{a.negative != (n < 0), a.size.times(magnitude(n))}
}

// over is for a divisor of the number.
func (a integer) over(n uint64) integer {
	quotient, _ := a.size.over(n)
	return integer{a.negative, quotient}
}

// magnitude is unsigned, because that of the least int64 is not an int64.
func magnitude(n int64) uint64 {
	if n < 0 {
		return -uint64(n)
	}
	return uint64(n)
}
