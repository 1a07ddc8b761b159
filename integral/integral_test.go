package integral

import (
	"math"
	"reflect"
	"slices"
	"testing"

	"querylab/api"
	"querylab/linear"
)

func frac(num, den int64) api.Frac {
	return api.Frac{Num: num, Den: den}
}

func ints(l ...int64) []api.Frac {
	return wholes(l)
}

func bounds(m ...api.Frac) api.Proof {
	return api.Proof{Kind: api.ProofBounds, Multipliers: m}
}

func lattices(m ...api.Frac) api.Proof {
	return api.Proof{Kind: api.ProofLattice, Multipliers: m}
}

func split(v int, bound int64, kids ...api.Proof) api.Proof {
	return api.Proof{Kind: api.ProofSplit, Var: v, Bound: bound, Kids: kids}
}

// double is 2 x = 3 with x at most 5.
func double() api.System {
	return system([]int64{5}, []int64{3}, []int64{2})
}

// pair is x + 2 y = 9, x - y = 5 with x at most 7, y at most 4: only x = 19/3, y = 4/3 satisfy both.
func pair() api.System {
	return system([]int64{7, 4}, []int64{9, 5}, []int64{1, 2}, []int64{1, -1})
}

func TestCheckCases(t *testing.T) {
	s := system([]int64{4, 4}, []int64{6}, []int64{1, 2})
	for _, c := range []struct {
		s    api.System
		x    []int64
		want bool
	}{
		{s, []int64{2, 2}, true}, {s, []int64{0, 3}, true}, {s, []int64{4, 1}, true},
		{s, []int64{6, 0}, false}, {s, []int64{-2, 4}, false}, {s, []int64{1, 2}, false}, {s, []int64{2}, false}, {s, []int64{2, 2, 0}, false}, {s, nil, false},
		{s, []int64{math.MaxInt64, 0}, false}, {s, []int64{math.MinInt64, 0}, false}, {s, []int64{0, math.MinInt64 + 3}, false},
		{api.System{}, nil, true}, {api.System{}, []int64{}, true}, {api.System{}, []int64{0}, false},
		{system(nil, []int64{0}, nil), nil, true}, {system(nil, []int64{1}, nil), nil, false},
		{system([]int64{3, 0}, nil), []int64{3, 0}, true}, {system([]int64{3, 0}, nil), []int64{3, 1}, false},
		{system([]int64{3}, []int64{3, 3}, []int64{1}, []int64{1}), []int64{3}, true}, {system([]int64{3}, []int64{3, 4}, []int64{1}, []int64{1}), []int64{3}, false},
		{system([]int64{api.MaxSummary}, []int64{-api.MaxSummary}, []int64{-1}), []int64{api.MaxSummary}, true},
		{system([]int64{api.MaxSummary, api.MaxSummary}, []int64{0}, []int64{api.MaxCoef, -api.MaxCoef}), []int64{api.MaxSummary, api.MaxSummary}, true},
		{system([]int64{api.MaxSummary, api.MaxSummary}, []int64{0}, []int64{api.MaxCoef, -api.MaxCoef}), []int64{api.MaxSummary, api.MaxSummary - 1}, false},
	} {
		if got := Check(c.s, c.x); got != c.want || got != satisfied(c.s, c.x) {
			t.Errorf("%v, %v: %v", c.s, c.x, got)
		}
	}
}

func TestInvalidSystems(t *testing.T) {
	wide := api.System{Upper: make([]int64, api.MaxVars+1)}
	tall := api.System{Rows: make([][]int64, api.MaxCons+1), Right: make([]int64, api.MaxCons+1)}
	for _, c := range []struct {
		s    api.System
		want api.Errno
	}{
		{wide, api.ErrLimit}, {tall, api.ErrLimit},
		{system([]int64{-1}, nil), api.ErrLimit}, {system([]int64{api.MaxSummary + 1}, nil), api.ErrLimit},
		{system([]int64{1}, []int64{0}, []int64{api.MaxCoef + 1}), api.ErrLimit}, {system([]int64{1}, []int64{-api.MaxSummary - 1}, []int64{2}), api.ErrLimit},
		{system([]int64{-1}, []int64{3, 3}, []int64{2}), api.ErrLimit},
		{system([]int64{5}, []int64{3}), api.ErrArity}, {system([]int64{5}, nil, []int64{2}), api.ErrArity}, {system([]int64{5}, []int64{3, 3}, []int64{2}), api.ErrArity},
		{system([]int64{5}, []int64{3}, []int64{2, 0}), api.ErrArity}, {system([]int64{5}, []int64{3}, nil), api.ErrArity},
	} {
		if x, p, err := Solve(c.s); len(x) > 0 || !reflect.DeepEqual(p, api.Proof{}) || err != c.want {
			t.Errorf("%v: Solve is %v, %v, %d", c.s, x, p, err)
		}
		if Check(c.s, make([]int64, len(c.s.Upper))) || Check(c.s, nil) {
			t.Errorf("%v has a solution", c.s)
		}
		half := make([]api.Frac, len(c.s.Rows))
		for i := range half {
			half[i] = frac(1, 2)
		}
		for _, p := range []api.Proof{{}, bounds(half...), lattices(half...), split(0, 1, lattices(half...), lattices(half...))} {
			if CheckProof(c.s, p) {
				t.Errorf("%v: %v is a proof", c.s, p)
			}
		}
	}
}

func TestSizeCases(t *testing.T) {
	leaf := bounds(ints(1)...)
	for k, c := range []struct {
		p    api.Proof
		want int
	}{
		{api.Proof{}, 1}, {leaf, 1}, {lattices(), 1}, {api.Proof{Kind: 9, Var: -1, Kids: []api.Proof{}}, 1},
		{split(1, 2, leaf, leaf), 3}, {split(1, 2, split(0, 1, leaf, leaf), leaf), 5}, {split(1, 2, leaf, split(0, 1, leaf, leaf)), 5},
		// no proofs of anything
		{split(0, 0), 1}, {split(0, 0, leaf), 2}, {split(0, 0, leaf, leaf, leaf), 4}, {api.Proof{Kids: []api.Proof{{Kids: []api.Proof{{}, {}}}, {}, {Kids: []api.Proof{{}}}}}, 7},
		{balanced(leaf, 5000), 9999}, {deep(leaf, 3000, 0), 5999}, {deep(leaf, 3000, 1), 5999},
	} {
		if got := Size(c.p); got != c.want || got != nodesOf(c.p) {
			t.Errorf("%d: %d", k, got)
		}
	}
}

// balanced makes a proof with so many leaves that is not deep.
func balanced(leaf api.Proof, leaves int) api.Proof {
	if leaves == 1 {
		return leaf
	}
	return split(0, 1, balanced(leaf, leaves/2), balanced(leaf, leaves-leaves/2))
}

// deep makes a proof that is so deep, always in one of its Kids.
func deep(leaf api.Proof, depth, kid int) api.Proof {
	p := leaf
	for range depth - 1 {
		kids := []api.Proof{leaf, leaf}
		kids[kid] = p
		p = split(0, 1, kids...)
	}
	return p
}

func checkProof(t *testing.T, s api.System, p api.Proof, want bool) {
	t.Helper()
	if accepted(s, p) != want {
		t.Errorf("%v, %v: the case is wrong", s, p)
	}
	if got := CheckProof(s, p); got != want {
		t.Errorf("%v, %v: %v", s, p, got)
	}
}

func TestCheckProofCases(t *testing.T) {
	one, half := bounds(ints(1)...), lattices(frac(1, 2))
	for _, c := range []struct {
		p    api.Proof
		want bool
	}{
		{half, true}, {one, false}, {lattices(ints(1)...), false}, {lattices(), false}, {bounds(), false}, {lattices(frac(1, 2), frac(1, 2)), false}, {lattices(frac(2, 4)), false},
		{split(0, 1, one, one), true}, {split(0, 0, one, one), false}, {split(0, 2, one, one), false}, {split(0, 1, bounds(frac(-7, 3)), bounds(frac(1, 9))), true}, {split(0, 1, one, bounds(ints(0)...)), false}, {split(0, 1, bounds(ints(0)...), one), false},
		{split(0, 1, half, one), true}, {split(0, 1, one, half), true}, {split(0, 7, half, half), true},
		{split(0, 0, one, split(0, 1, one, one)), true}, {split(0, 3, split(0, 1, one, one), one), true}, {split(0, 0, one, split(0, 2, one, one)), false},
		// bounds that are nearer stay
		{split(0, 1, split(0, 4, one, one), one), true}, {split(0, 1, one, split(0, 0, one, one)), true}, {split(0, 9, split(0, 1, one, one), one), true}, {split(0, 9, one, half), false}, {split(0, 9, half, one), true}, {split(0, 5, half, bounds(ints(0)...)), true}, {split(0, 4, half, bounds(ints(0)...)), false},
		{split(0, api.MaxSummary-1, half, bounds(ints(0)...)), true}, {split(0, api.MaxSummary, half, half), true},
		// a lower bound of MaxSummary + 1 is none of linear
		{split(0, api.MaxSummary, half, one), false},
		{split(0, api.MaxSummary+1, half, half), false}, {split(0, math.MaxInt64, half, half), false}, {split(0, -1, half, half), false}, {split(0, math.MinInt64, half, half), false},
		{split(1, 1, half, half), false}, {split(-1, 1, half, half), false}, {split(math.MaxInt, 1, half, half), false}, {split(math.MinInt, 1, half, half), false},
		{split(0, 1), false}, {split(0, 1, half), false}, {split(0, 1, half, half, half), false}, {split(0, 1, half, api.Proof{}), false}, {split(0, 1, api.Proof{}, half), false},
		{split(0, 1, half, split(0, 1, half, split(0, 1, half))), false}, {split(0, 1, split(1, 1, half, half), half), false},
	} {
		checkProof(t, double(), c.p, c.want)
	}
	for _, kind := range []int{0, 4, -1, math.MaxInt, math.MinInt} {
		checkProof(t, double(), api.Proof{Kind: kind}, false)
		checkProof(t, double(), api.Proof{Kind: kind, Multipliers: half.Multipliers}, false)
		checkProof(t, double(), api.Proof{Kind: kind, Bound: 1, Kids: []api.Proof{half, half}}, false)
	}
	for _, p := range []api.Proof{half, split(0, 1, one, one)} {
		for _, change := range []func(p *api.Proof){
			func(p *api.Proof) { p.Kids = append(p.Kids, half) },
			func(p *api.Proof) { p.Kids = append(p.Kids, half, half) },
			func(p *api.Proof) { p.Multipliers = append(slices.Clone(p.Multipliers), frac(0, 1)) },
			func(p *api.Proof) { p.Var = 1 },
			func(p *api.Proof) { p.Var = -1 },
			func(p *api.Proof) { p.Kind = api.ProofBounds },
			func(p *api.Proof) { p.Bound -= 2 },
			func(p *api.Proof) { p.Bound += api.MaxSummary },
		} {
			changed := p
			change(&changed)
			checkProof(t, double(), changed, false)
		}
		checkProof(t, double(), p, true)
	}
}

// Each of the fields that a leaf does not use.
func TestLeavesHaveNothingElse(t *testing.T) {
	s := system([]int64{1, 1}, []int64{3, 5}, []int64{1, 1}, []int64{2, 2})
	for _, leaf := range []api.Proof{bounds(ints(1, 0)...), lattices(frac(0, 1), frac(1, 2))} {
		checkProof(t, s, leaf, true)
		for _, change := range []func(p *api.Proof){
			func(p *api.Proof) { p.Var = 1 }, func(p *api.Proof) { p.Var = -1 },
			func(p *api.Proof) { p.Bound = 1 }, func(p *api.Proof) { p.Bound = -1 },
			func(p *api.Proof) { p.Kids = []api.Proof{leaf} }, func(p *api.Proof) { p.Kids = []api.Proof{leaf, leaf} }, func(p *api.Proof) { p.Kids = []api.Proof{{}} },
		} {
			p := leaf
			change(&p)
			checkProof(t, s, p, false)
			checkProof(t, s, split(1, 0, p, leaf), false)
			checkProof(t, s, split(1, 0, leaf, p), false)
		}
		leaf.Kids = []api.Proof{}
		checkProof(t, s, leaf, true)
		checkProof(t, s, api.Proof{Kind: api.ProofSplit, Multipliers: []api.Frac{}, Kids: []api.Proof{leaf, leaf}}, true)
		checkProof(t, s, api.Proof{Kind: api.ProofSplit, Multipliers: ints(0), Kids: []api.Proof{leaf, leaf}}, false)
	}
}

func TestProofsWithSeveralVariables(t *testing.T) {
	first, second := bounds(ints(1, 0)...), bounds(ints(0, 1)...)
	x, y := bounds(ints(1, 2)...), bounds(ints(1, -1)...) // 3 x = 19, 3 y = 4
	for _, c := range []struct {
		p    api.Proof
		want bool
	}{
		{lattices(frac(1, 3), frac(2, 3)), true}, {lattices(frac(1, 3), frac(1, 3)), false}, {lattices(frac(1, 3), frac(-1, 3)), true}, {x, false}, {y, false},
		{split(0, 6, x, x), true}, {split(0, 5, x, x), false}, {split(0, 7, x, x), false}, {split(1, 6, x, x), false}, {split(0, 6, y, x), false}, {split(0, 6, x, y), false},
		{split(1, 1, y, y), true}, {split(1, 0, y, y), false}, {split(1, 2, y, y), false}, {split(0, 1, y, y), false},
		{split(0, 6, split(1, 1, first, second), split(1, 1, second, first)), true}, {split(1, 1, split(0, 6, first, second), split(0, 6, second, first)), true},
		{split(0, 6, split(1, 1, second, first), split(1, 1, second, first)), false}, {split(0, 6, split(1, 1, first, second), split(1, 1, first, second)), false}, {split(0, 6, split(1, 1, first, second), split(1, 0, second, first)), false}, {split(0, 6, split(1, 1, first, second), split(0, 1, second, first)), false},
	} {
		checkProof(t, pair(), c.p, c.want)
	}
	// without variables, and without rows
	checkProof(t, system(nil, []int64{1}, nil), bounds(ints(1)...), true)
	checkProof(t, system(nil, []int64{1}, nil), split(0, 0, bounds(ints(1)...), bounds(ints(1)...)), false)
	checkProof(t, system([]int64{1}, nil), bounds(), false)
	checkProof(t, system([]int64{1}, nil), split(0, 1, bounds(), bounds()), false)
	checkProof(t, system([]int64{1}, nil), split(0, 0, bounds(), bounds()), false)
	checkProof(t, api.System{}, bounds(), false)
	checkProof(t, api.System{}, lattices(), false)
}

func TestLargestProofs(t *testing.T) {
	for _, leaf := range []api.Proof{lattices(frac(1, 2)), lattices(frac(-3, 2))} {
		checkProof(t, double(), balanced(leaf, 1000), true)
		checkProof(t, double(), balanced(leaf, 1001), false)
		for kid := range 2 {
			checkProof(t, double(), deep(leaf, 200, kid), true)
			checkProof(t, double(), deep(leaf, 201, kid), false)
		}
		checkProof(t, double(), split(0, 1, deep(leaf, 199, 0), deep(leaf, 199, 1)), true)
		checkProof(t, double(), split(0, 1, deep(leaf, 199, 0), deep(leaf, 200, 1)), false)
	}
}

// Nodes may share their Kids: then a proof has more nodes than can be counted.
func TestProofsThatAreTooLargeToWalkThrough(t *testing.T) {
	p := lattices(frac(1, 2))
	for range 150 {
		p = split(0, 1, p, p)
	}
	if CheckProof(double(), p) {
		t.Error("2^151 nodes are too many")
	}
	kids := make([]api.Proof, 100000)
	for k := range kids {
		kids[k].Kids = kids[k/2 : k : k]
	}
	if CheckProof(double(), api.Proof{Kind: api.ProofSplit, Kids: kids}) {
		t.Error("a split has two Kids")
	}
}

func TestArgumentsStay(t *testing.T) {
	made := func() api.Proof {
		return split(0, 6, split(1, 1, bounds(ints(1, 0)...), bounds(ints(0, 1)...)), lattices(frac(1, 3), frac(2, 3)))
	}
	s, p, x := pair(), made(), []int64{6, 1}
	if !CheckProof(s, p) || Check(s, x) || Size(p) != 5 {
		t.Error("the case is wrong")
	}
	if !reflect.DeepEqual(s, pair()) || !reflect.DeepEqual(p, made()) || !slices.Equal(x, []int64{6, 1}) {
		t.Error("an argument has changed")
	}
}

// changed makes a proof that differs from another one in one place.
func (m maker) changed(p api.Proof) api.Proof {
	p.Multipliers, p.Kids = slices.Clone(p.Multipliers), slices.Clone(p.Kids)
	if k := m.IntN(3); k < len(p.Kids) {
		p.Kids[k] = m.changed(p.Kids[k])
		return p
	}
	switch m.IntN(8) {
	case 0:
		p.Kind = m.IntN(5)
	case 1:
		p.Var += m.IntN(5) - 2
	case 2, 3:
		p.Bound += m.among(-2, 2)
	case 4:
		for i := range p.Multipliers {
			p.Multipliers[i].Num = m.among(-3, 3)
		}
	case 5:
		p.Multipliers = append(p.Multipliers, ints(1)...)
	case 6:
		slices.Reverse(p.Kids)
	case 7:
		p.Kids = append(p.Kids, api.Proof{Kind: p.Kind, Multipliers: p.Multipliers})
	}
	return p
}

func TestChangedProofs(t *testing.T) {
	r := newMaker(1)
	count := map[bool]int{}
	for count[true]+count[false] < 20000 {
		s := r.small(500)
		_, p, err := Solve(s)
		if err != api.ErrNone || linear.Valid(s) != api.OK {
			continue
		}
		for range 10 {
			changed := r.changed(p)
			want := accepted(s, changed)
			if CheckProof(s, changed) != want || Size(changed) != nodesOf(changed) {
				t.Fatalf("%v: %v is a proof: %v", s, changed, want)
			}
			count[want]++
		}
	}
	if count[true] < 2000 || count[false] < 2000 {
		t.Errorf("outcomes: %v", count)
	}
}

// A proof that is right for another system may be wrong for this one, but never where there is a solution.
func TestProofsAreSound(t *testing.T) {
	r := newMaker(2)
	count := map[bool]int{}
	for range 3000 {
		s := r.small(100)
		_, p, err := Solve(s)
		if err != api.ErrNone {
			continue
		}
		for range 10 {
			other := clone(s)
			i := r.IntN(len(s.Right))
			other.Right[i] = max(-api.MaxSummary, min(api.MaxSummary, s.Right[i]+r.among(-5, 5)))
			got := CheckProof(other, p)
			if got != accepted(other, p) || got && solvable(other) {
				t.Fatalf("%v: %v is a proof: %v", other, p, got)
			}
			count[got]++
		}
	}
	if count[true] < 1000 || count[false] < 1000 {
		t.Errorf("outcomes: %v", count)
	}
}
