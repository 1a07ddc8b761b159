package integral

import (
	"reflect"
	"slices"
	"testing"

	"querylab/api"
)

func TestDivided(t *testing.T) {
	b := box{[]int64{1, 3}, []int64{8, 6}, 4}
	for _, c := range []struct {
		v            int
		bound        int64
		lower, upper []int64 // of the second part, of the first one
	}{
		{0, 5, []int64{6, 3}, []int64{5, 6}}, {0, 1, []int64{2, 3}, []int64{1, 6}}, {0, 7, []int64{8, 3}, []int64{7, 6}}, {1, 4, []int64{1, 5}, []int64{8, 4}},
		{0, 8, []int64{9, 3}, []int64{8, 6}}, {0, 9, []int64{10, 3}, []int64{8, 6}}, {0, 0, []int64{1, 3}, []int64{0, 6}}, {1, 0, []int64{1, 3}, []int64{8, 0}}, {1, 2, []int64{1, 3}, []int64{8, 2}},
	} {
		want := [2]box{{[]int64{1, 3}, c.upper, 5}, {c.lower, []int64{8, 6}, 5}}
		if got := b.divided(c.v, c.bound); !reflect.DeepEqual(got, want) {
			t.Errorf("variable %d at %d: %v", c.v, c.bound, got)
		}
	}
	if !reflect.DeepEqual(b, box{[]int64{1, 3}, []int64{8, 6}, 4}) {
		t.Errorf("the box has changed: %v", b)
	}
}

// random makes a box of a system.
func (m maker) box(s api.System) box {
	b := root(s)
	b.upper = slices.Clone(b.upper)
	for v, u := range s.Upper {
		b.lower[v] = m.among(0, u)
		b.upper[v] = m.among(b.lower[v], u)
	}
	return b
}

// What is moved has the solutions between the bounds, and a row that is missed has none.
func TestBoxes(t *testing.T) {
	r := newMaker(9)
	missed := 0
	for range 20000 {
		s := r.small(500)
		b := r.box(s)
		free := b.free()
		moved := b.moved(s, free)
		y := r.point(moved.Upper)
		x := slices.Clone(b.lower)
		for k, v := range free {
			x[v] += y[k]
		}
		if satisfied(s, x) != satisfied(moved, y) {
			t.Fatalf("%v, %v: moved is %v", s, b, moved)
		}
		row := b.missed(s)
		least, greatest := slices.Clone(b.lower), slices.Clone(b.lower)
		for i := range s.Rows {
			for v, c := range s.Rows[i] {
				least[v], greatest[v] = b.lower[v], b.upper[v]
				if c < 0 {
					least[v], greatest[v] = b.upper[v], b.lower[v]
				}
			}
			beyond := dot(s.Rows[i], least) > s.Right[i] || dot(s.Rows[i], greatest) < s.Right[i]
			if beyond != (i == row) && (row < 0 || i < row) {
				t.Fatalf("%v, %v: row %d is missed", s, b, row)
			}
		}
		if row >= 0 {
			missed++
		}
	}
	if missed < 5000 || missed > 19000 {
		t.Errorf("missed: %d", missed)
	}
}

// Both searches, with and without linear systems, decide what has few points.
func TestSearchesOfPromisedSize(t *testing.T) {
	r := newMaker(10)
	for range 5000 {
		s := r.small(500)
		for _, work := range []int{0, 100, mostWork} {
			one, two := newSearch(s, work), newSearch(s, work)
			decided(t, s, judged(t, s, one.sharp(root(s))))
			decided(t, s, judged(t, s, two.halved(root(s))))
			if one.work < 0 || two.work < 0 || one.nodes < 0 || two.nodes < 0 {
				t.Fatalf("%v: %v, %v", s, one, two)
			}
		}
	}
}

// A search ends at as many nodes, and as deep, as it may.
func TestSearchesWithinTheirLimits(t *testing.T) {
	r := newMaker(11)
	count := map[string]int{}
	for count[infeasible] < 2000 {
		s := r.small(500)
		for _, next := range []func(s *search, b box) outcome{(*search).sharp, (*search).halved} {
			full := next(newSearch(s, mostWork), root(s))
			size, deep := Size(full.proof), depthOf(full.proof)
			if full.err != api.ErrNone || size < 5 {
				continue
			}
			for _, nodes := range []int{0, 1, size - 3, size - 2, size - 1, size} {
				found := next(&search{s, nodes, mostWork}, root(s))
				outcome := judged(t, s, found)
				if (outcome == infeasible) != (nodes >= size-1) || outcome == infeasible && !reflect.DeepEqual(found, full) {
					t.Fatalf("%v: with %d nodes of %d %v", s, nodes, size, found)
				}
				count[outcome]++
			}
			for _, depth := range []int{1, deepest - deep, deepest - deep + 1, deepest - deep + 2, deepest} {
				b := root(s)
				b.depth = depth
				outcome := judged(t, s, next(newSearch(s, mostWork), b))
				if (outcome == infeasible) != (depth+deep-1 <= deepest) {
					t.Fatalf("%v: from depth %d on %d: %s", s, depth, deep, outcome)
				}
				count[outcome]++
			}
		}
	}
	if count[large] < 1000 || count[feasible] > 0 {
		t.Errorf("outcomes: %v", count)
	}
}

// Where linear.Solve is of no help, the parts are found by their rows.
func TestLook(t *testing.T) {
	const most = api.MaxSummary
	for _, c := range []struct {
		s     api.System
		lower []int64
		want  outcome
	}{
		{system([]int64{9}, []int64{-most}, []int64{api.MaxCoef}), []int64{9}, proven(bounds(ints(1)...))}, // 9 * MaxCoef below a limit
		{system([]int64{9}, []int64{3, -most}, []int64{0}, []int64{api.MaxCoef}), []int64{9}, proven(bounds(ints(1, 0)...))},
		{system([]int64{9}, []int64{0, -most}, []int64{0}, []int64{api.MaxCoef}), []int64{9}, proven(bounds(ints(0, 1)...))},
		{system([]int64{9, 9}, []int64{9 * api.MaxCoef}, []int64{api.MaxCoef, 0}), []int64{9, 9}, outcome{x: []int64{9, 9}}},
		{system([]int64{most, most}, []int64{0}, []int64{api.MaxCoef, -api.MaxCoef}), []int64{most, most}, outcome{x: []int64{most, most}}},
		{system([]int64{most, most}, []int64{0}, []int64{api.MaxCoef, -api.MaxCoef}), []int64{most, 1}, unknown()},
		{double(), []int64{1}, unknown()}, {double(), []int64{2}, proven(bounds(ints(1)...))},
	} {
		b := root(c.s)
		b.lower = c.lower
		if got, _ := newSearch(c.s, mostWork).look(b); !reflect.DeepEqual(got, c.want) {
			t.Errorf("%v from %v on: %v", c.s, c.lower, got)
		}
	}
}

// The variable is the one that has a fraction, or the widest one if linear.Solve fails.
func TestNodesOfHalved(t *testing.T) {
	r := newMaker(17)
	for _, c := range []struct {
		variables, rows int
		greatest, upper int64
		nodes           int // at most, on average
	}{
		{3, 2, 30, 400, 200}, {6, 4, api.MaxCoef, 10, 130},
	} {
		nodes := 0
		for range 100 {
			s := r.dense(c.variables, c.rows, c.greatest, c.upper)
			o := newSearch(s, mostWork)
			if got := judged(t, s, o.halved(root(s))); got == large {
				t.Errorf("%v: large", s)
			}
			nodes += api.MaxBranch - o.nodes
		}
		if nodes > 100*c.nodes {
			t.Errorf("%v: %d nodes", c, nodes)
		}
	}
}

func TestNodesOfASearch(t *testing.T) {
	if n := newSearch(double(), 7).nodes; n != api.MaxBranch-1 {
		t.Errorf("%d nodes may be added to the root", n)
	}
}

// The linear systems of a search take no more work than is left.
func TestWork(t *testing.T) {
	four := system([]int64{1, 2, 0, 4}, []int64{0, 0, 0}, []int64{1, 0, 5, 3}, []int64{0, 0, 0, 0}, []int64{0, -1, 0, 0})
	if effort(four) != 4*3 || effort(double()) != 1 || effort(api.System{}) != 0 {
		t.Error("the effort is wrong")
	}
	long := tables(7, 30011, 1)                              // where linear.Solve fails
	half := system([]int64{0, 2}, []int64{3}, []int64{5, 2}) // where it finds one
	for _, c := range []struct {
		l    []api.Frac
		err  api.Errno
		want int
	}{
		{nil, api.OK, 1}, {ints(0, 9, -9), api.OK, 1}, {[]api.Frac{frac(9, 1), frac(-1, 2), frac(1, 7)}, api.OK, 3}, {[]api.Frac{frac(0, 1), frac(9, 8), frac(1, 3)}, api.OK, 4}, {nil, api.ErrLimit, 57},
	} {
		if got := length(c.l, c.err); got != c.want {
			t.Errorf("%v: length %d", c.l, got)
		}
	}
	for _, c := range []struct {
		s          api.System
		work, rest int
		want       api.Errno
	}{
		{four, 100, 100 - 9, api.OK}, {four, 9, 0, api.OK}, {four, 8, 8, api.ErrLimit}, {four, 0, 0, api.ErrLimit}, // without the variable that must be 0
		{long, mostWork, mostWork - 57*effort(long), api.ErrLimit}, {long, 9 * effort(long), 0, api.ErrLimit}, {half, 100, 100 - 2, api.OK}, {long, effort(long) - 1, effort(long) - 1, api.ErrLimit},
	} {
		o := newSearch(c.s, c.work)
		if _, _, err := o.relaxed(root(c.s)); err != c.want || o.work != c.rest {
			t.Errorf("%v: %d, %d of %d are left", c.s, err, o.work, c.work)
		}
	}
	r := newMaker(15)
	for range 2000 {
		s := r.small(500)
		for _, l := range leaves(newSearch(s, 0).halved(root(s)).proof) {
			if len(slices.DeleteFunc(l, func(f api.Frac) bool { return f.Num == 0 })) > 1 {
				t.Fatalf("%v: linear.Solve was called without need", s)
			}
		}
	}
}

// A solution counts even if the part before cannot be decided.
func TestSolutionBehindAnUnknownPart(t *testing.T) {
	s := system([]int64{9}, nil)
	o := &search{s, 4, 0}
	found := o.divide(root(s), 0, 4, func(b box) outcome {
		if b.lower[0] == 0 {
			return unknown()
		}
		return outcome{x: b.lower}
	})
	if found.err != api.OK || !slices.Equal(found.x, []int64{5}) || o.nodes != 2 {
		t.Errorf("%v, %d nodes", found, o.nodes)
	}
	for k := range 2 {
		n := 0
		found := o.divide(root(s), 0, 4, func(box) outcome {
			n++
			if n == k+1 {
				return unknown()
			}
			return proven(bounds())
		})
		if found.err != api.ErrLimit || len(found.proof.Kids) > 0 || n != 2 {
			t.Errorf("%v", found)
		}
		o.nodes = 2
	}
}

// A combination may be a proof only for the distances from the lower bounds.
func TestRefuted(t *testing.T) {
	s := system([]int64{3, 3}, []int64{4, 1}, []int64{1, 1}, []int64{1, 0})
	o := &search{s, 0, 0}
	if found := o.refuted(box{[]int64{0, 0}, []int64{1, 2}, 1}, ints(1, 0)); found.err != api.ErrNone || !reflect.DeepEqual(found.proof, bounds(ints(1, 0)...)) {
		t.Errorf("%v", found)
	}
	if found := o.refuted(box{[]int64{0, 0}, []int64{2, 2}, 1}, ints(1, 0)); found.err != api.ErrLimit || !reflect.DeepEqual(found.proof, api.Proof{}) {
		t.Errorf("%v", found)
	}
}
