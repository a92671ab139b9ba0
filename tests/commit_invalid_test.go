package tests

import (
	"math"
	"slices"
	"testing"

	"loop.example/g00878/impl"
)

// Promise 9 for invalid arguments, for which each function returns zero values.

// commitArgs are arguments for all functions of chapter 9. c and vector are the elements that CheckOpening and CheckVector get.
type commitArgs struct {
	gr       impl.Group
	n        int
	b        impl.Bases
	m        int
	r        int
	c        int
	l        []int
	vector   int
	elements []int
	exps     []int
	trapdoor int
	other    int
	coins    []int
	p        impl.Proof
}

// commitCalls returns all functions of chapter 9. All of them take a group.
func commitCalls() []tableCall[commitArgs] {
	return []tableCall[commitArgs]{
		{"BasesOf", []string{"n"}, func(a commitArgs) outcome { return outcomeOf(impl.BasesOf(a.gr, a.n)) }},
		{"IsValidBases", []string{"b"}, func(a commitArgs) outcome { return outcomeOf(0, impl.IsValidBases(a.gr, a.b)) }},
		{"Commit", []string{"b", "m", "r"}, func(a commitArgs) outcome { return outcomeOf(impl.Commit(a.gr, a.b, a.m, a.r)) }},
		{"CheckOpening", []string{"b", "m", "r", "c", "check"}, func(a commitArgs) outcome { return outcomeOf(impl.CheckOpening(a.gr, a.b, a.c, a.m, a.r)) }},
		{"CommitVector", []string{"b", "l", "r"}, func(a commitArgs) outcome { return outcomeOf(impl.CommitVector(a.gr, a.b, a.l, a.r)) }},
		{"CheckVector", []string{"b", "l", "r", "vector", "check"}, func(a commitArgs) outcome {
			return outcomeOf(impl.CheckVector(a.gr, a.b, a.vector, a.l, a.r))
		}},
		{"CombineCommits", []string{"elements", "exps"}, func(a commitArgs) outcome { return outcomeOf(impl.CombineCommits(a.gr, a.elements, a.exps)) }},
		{"Equivocate", []string{"trapdoor", "m", "r", "other"}, func(a commitArgs) outcome {
			return outcomeOf(impl.Equivocate(a.gr, a.trapdoor, a.m, a.r, a.other))
		}},
		{"ProveOpening", []string{"b", "m", "r", "coins"}, func(a commitArgs) outcome {
			return outcomeOf(impl.ProveOpening(a.gr, a.b, a.m, a.r, a.coins))
		}},
		{"VerifyOpening", []string{"b", "c", "check"}, func(a commitArgs) outcome { return outcomeOf(impl.VerifyOpening(a.gr, a.b, a.c, a.p)) }},
	}
}

// withCommitments returns valid arguments with the right commitments and the right proof.
func withCommitments(a commitArgs) commitArgs {
	a.c, a.vector = wantCommit(a.gr, a.b.H, a.m, a.r), wantVector(a.gr, a.b, a.l, a.r)
	a.p = wantOpening(a.gr, a.b.H, a.m, a.r, a.coins)
	return a
}

// commitStarts returns valid arguments of a group, for which all functions succeed: ordinary ones, the least ones and the longest ones.
func commitStarts(gr impl.Group) []commitArgs {
	l, top := basesIn(gr), gr.Q-1
	ordinary := commitArgs{gr: gr, n: 2, b: impl.Bases{H: l[1], Hs: l[3:6]}, m: 1, r: top, l: []int{1, top}, elements: []int{gr.G, 1, l[2]}, exps: []int{top, 1, 0}, trapdoor: 1, other: top, coins: []int{1, top}}
	least := commitArgs{gr: gr, b: impl.Bases{H: gr.G}, elements: []int{1}, exps: []int{0}, trapdoor: top, coins: []int{0, 0}}
	longest := commitArgs{gr: gr, n: maxList, b: impl.Bases{H: l[2], Hs: l[4 : 4+maxList]}, m: top, r: 1, l: firstOf(gr.Q, maxList), elements: repeated(gr.G, maxList), exps: repeated(top, maxList), trapdoor: 1, other: 0, coins: []int{top, top}}
	return []commitArgs{withCommitments(ordinary), withCommitments(least), withCommitments(longest)}
}

// allCommitStarts returns the valid arguments of all groups.
func allCommitStarts() []commitArgs {
	var starts []commitArgs
	for _, gr := range allGroups() {
		starts = append(starts, commitStarts(gr)...)
	}
	return starts
}

// badBases returns bases that valid ones become by 1 or by an integer that is no element as H or at a place of Hs, or by too many Hs.
func badBases(gr impl.Group, b impl.Bases) []impl.Bases {
	var bad []impl.Bases
	for _, x := range append(notElements(gr), 1) {
		bad = append(bad, impl.Bases{H: x, Hs: b.Hs}, impl.Bases{H: b.H, Hs: inserted(b.Hs, len(b.Hs), x)})
		for i := range b.Hs {
			bad = append(bad, impl.Bases{H: b.H, Hs: replaced(b.Hs, i, x)})
		}
	}
	for _, n := range []int{maxList + 1, maxList + 2, 100, 1000} {
		bad = append(bad, impl.Bases{H: b.H, Hs: repeated(gr.G, n)}, impl.Bases{H: b.H, Hs: slices.Concat(b.Hs, repeated(gr.G, n-len(b.Hs)))})
	}
	return append(bad, impl.Bases{}, impl.Bases{Hs: b.Hs})
}

// TestCommitAccepts shows that the arguments are refused for their faults alone.
func TestCommitAccepts(t *testing.T) {
	for _, a := range allCommitStarts() {
		for _, f := range commitCalls() {
			got := f.call(a)
			if !got.ok || slices.Contains(f.uses, "check") && got.text != "true" {
				t.Errorf("%s of %+v = %v, %v", f.name, a, got.text, got.ok)
			}
		}
	}
}

func TestCommitOfBadGroups(t *testing.T) {
	for _, gr := range badGroups {
		for _, other := range []impl.Group{exampleGroup, {P: 3, Q: 2, G: 2}} {
			for _, a := range commitStarts(other) {
				a.gr = gr
				checkRefused(t, commitCalls(), "", a)
			}
		}
	}
}

// TestCommitOfOtherGroups takes elements of another group with the same P, and exponents of one with a greater Q.
func TestCommitOfOtherGroups(t *testing.T) {
	least := impl.Group{P: 23, Q: 2, G: 22}
	a := commitStarts(exampleGroup)[0]
	b := commitStarts(least)[0]
	bad := b
	bad.b = a.b
	checkRefused(t, commitCalls(), "b", bad)
	bad = b
	bad.c, bad.vector, bad.elements = 2, 2, []int{22, 2, 1}
	for _, use := range []string{"c", "vector", "elements"} {
		checkRefused(t, commitCalls(), use, bad)
	}
	for use, change := range map[string]func(a *commitArgs){
		"m":        func(a *commitArgs) { a.m = 2 },
		"r":        func(a *commitArgs) { a.r = 10 },
		"l":        func(a *commitArgs) { a.l = []int{1, 2} },
		"exps":     func(a *commitArgs) { a.exps = []int{10, 1, 1} },
		"trapdoor": func(a *commitArgs) { a.trapdoor = 3 },
		"other":    func(a *commitArgs) { a.other = 2 },
		"coins":    func(a *commitArgs) { a.coins = []int{1, 3} },
	} {
		bad = b
		change(&bad)
		checkRefused(t, commitCalls(), use, bad)
	}
}

func TestCommitOfBadBases(t *testing.T) {
	for _, a := range allCommitStarts() {
		for _, b := range badBases(a.gr, a.b) {
			bad := a
			bad.b = b
			checkRefused(t, commitCalls(), "b", bad)
			bad.l = nil
			checkRefused(t, commitCalls(), "b", bad)
			bad.p = impl.Proof{}
			checkRefused(t, commitCalls(), "b", bad)
		}
	}
}

func TestCommitOfBadElements(t *testing.T) {
	for _, a := range allCommitStarts() {
		for _, x := range notElements(a.gr) {
			bad := a
			bad.c = x
			checkRefused(t, commitCalls(), "c", bad)
			bad.p = impl.Proof{}
			checkRefused(t, commitCalls(), "c", bad)
			bad = a
			bad.vector = x
			checkRefused(t, commitCalls(), "vector", bad)
		}
		for _, x := range []int{a.c + a.gr.P, a.c - a.gr.P, -a.c} {
			bad := a
			bad.c = x
			checkRefused(t, commitCalls(), "c", bad)
		}
		for _, l := range badElementLists(a.gr) {
			bad := a
			bad.elements, bad.exps = l, repeated(0, len(l))
			checkRefused(t, commitCalls(), "elements", bad)
			bad.exps = repeated(1, len(l))
			checkRefused(t, commitCalls(), "elements", bad)
		}
		bad := a
		bad.elements, bad.exps = nil, nil
		checkRefused(t, commitCalls(), "elements", bad)
	}
}

// TestCommitOfBadExponents takes integers that are no exponents; some have the same residues as the right ones.
func TestCommitOfBadExponents(t *testing.T) {
	for _, a := range allCommitStarts() {
		for use, place := range map[string]func(a *commitArgs) *int{
			"m":        func(a *commitArgs) *int { return &a.m },
			"r":        func(a *commitArgs) *int { return &a.r },
			"trapdoor": func(a *commitArgs) *int { return &a.trapdoor },
			"other":    func(a *commitArgs) *int { return &a.other },
		} {
			right := *place(&a)
			for _, e := range append(notExponents(a.gr), right+a.gr.Q, right-a.gr.Q) {
				bad := a
				*place(&bad) = e
				checkRefused(t, commitCalls(), use, bad)
			}
		}
		a.trapdoor = 0
		checkRefused(t, commitCalls(), "trapdoor", a)
	}
}

func TestCommitOfBadExponentLists(t *testing.T) {
	for _, a := range allCommitStarts() {
		for i, e := range a.l {
			for _, x := range append(notExponents(a.gr), e+a.gr.Q, e-a.gr.Q) {
				bad := a
				bad.l = replaced(a.l, i, x)
				checkRefused(t, commitCalls(), "l", bad)
			}
		}
		for _, n := range []int{len(a.b.Hs) + 1, maxList + 1, 1000} {
			bad := a
			bad.l = repeated(1, n)
			checkRefused(t, commitCalls(), "l", bad)
		}
		for _, exps := range badVariants(a.exps, notExponents(a.gr)) {
			bad := a
			bad.exps = exps
			checkRefused(t, commitCalls(), "exps", bad)
		}
	}
}

// TestProveOpeningOfBadCoins takes one coin, three or none, and coins that are no exponents.
func TestProveOpeningOfBadCoins(t *testing.T) {
	for _, a := range allCommitStarts() {
		for _, coins := range append(badVariants(a.coins, notExponents(a.gr)), []int{}, []int{0}, []int{0, 0, 0}) {
			bad := a
			bad.coins = coins
			checkRefused(t, commitCalls(), "coins", bad)
		}
	}
}

func TestBasesOfBadNumbersAreRefused(t *testing.T) {
	for _, a := range allCommitStarts() {
		for _, n := range []int{math.MinInt, -1, maxList + 1, math.MaxInt} {
			bad := a
			bad.n = n
			checkRefused(t, commitCalls(), "n", bad)
		}
	}
}
