package tests

import (
	"math"
	"slices"
	"testing"

	"loop.example/g00878/impl"
)

// Promise 10 for invalid arguments, for which each function returns zero values.

// rangeArgs are arguments for all functions of chapter 10 that take a group: c and p are a commitment to bit with its proof, whole and x one to m with that of its range, and interval the proofs that m is in lo..hi.
type rangeArgs struct {
	gr            impl.Group
	b             impl.Bases
	r             int
	n             int
	bit           int
	bitCoins      []int
	c             int
	p             impl.Proof
	m             int
	coins         []int
	whole         int
	x             impl.RangeProof
	rs            []int
	l             []int
	sumCoins      []int
	cs            []int
	total         int
	sum           impl.Proof
	lo            int
	hi            int
	intervalCoins []int
	interval      intervalProof
}

// rangeCalls returns all functions of chapter 10 that take a group.
func rangeCalls() []tableCall[rangeArgs] {
	return []tableCall[rangeArgs]{
		{"ProveBit", []string{"b", "bit", "r", "bitCoins"}, func(a rangeArgs) outcome {
			return outcomeOf(impl.ProveBit(a.gr, a.b, a.bit, a.r, a.bitCoins))
		}},
		{"VerifyBit", []string{"b", "c", "check"}, func(a rangeArgs) outcome { return outcomeOf(impl.VerifyBit(a.gr, a.b, a.c, a.p)) }},
		{"ProveRange", []string{"b", "m", "r", "n", "coins"}, func(a rangeArgs) outcome {
			return outcomeOf(impl.ProveRange(a.gr, a.b, a.m, a.r, a.n, a.coins))
		}},
		{"VerifyRange", []string{"b", "whole", "n", "check"}, func(a rangeArgs) outcome {
			return outcomeOf(impl.VerifyRange(a.gr, a.b, a.whole, a.n, a.x))
		}},
		{"ProveSum", []string{"b", "rs", "l", "sumCoins"}, func(a rangeArgs) outcome {
			return outcomeOf(impl.ProveSum(a.gr, a.b, a.rs, a.l, a.sumCoins))
		}},
		{"VerifySum", []string{"b", "cs", "total", "check"}, func(a rangeArgs) outcome {
			return outcomeOf(impl.VerifySum(a.gr, a.b, a.cs, a.total, a.sum))
		}},
		{"ProveInterval", []string{"b", "m", "r", "n", "lo", "hi", "intervalCoins"}, func(a rangeArgs) outcome {
			return outcomeOf(proveInterval(a.gr, a.b, a.m, a.r, a.lo, a.hi, a.n, a.intervalCoins))
		}},
		{"VerifyInterval", []string{"b", "whole", "n", "lo", "hi", "check"}, func(a rangeArgs) outcome {
			return outcomeOf(impl.VerifyInterval(a.gr, a.b, a.whole, a.lo, a.hi, a.n, a.interval.x, a.interval.y))
		}},
	}
}

// withRanges returns valid arguments with the right commitments and the right proofs.
func withRanges(a rangeArgs) rangeArgs {
	h := a.b.H
	a.c, a.p = wantCommit(a.gr, h, a.bit, a.r), wantBit(a.gr, h, a.bit, a.r, a.bitCoins)
	a.whole, a.x = wantCommit(a.gr, h, a.m, a.r), wantRange(a.gr, h, a.m, a.r, a.n, a.coins)
	a.cs, a.total, a.sum = commitsTo(a.gr, h, a.l, a.rs), wantSumOf(a.gr, a.l), wantSum(a.gr, h, a.rs, a.l, a.sumCoins[0])
	a.interval = wantInterval(a.gr, h, a.m, a.r, a.lo, a.hi, a.n, a.intervalCoins)
	return a
}

// rangeStarts returns valid arguments of a group in which there are ranges, for which all functions succeed: ordinary ones, the least ones and the longest ones.
func rangeStarts(gr impl.Group) []rangeArgs {
	l, top, most := basesIn(gr), gr.Q-1, mostBits(gr)
	ordinary := rangeArgs{gr: gr, b: impl.Bases{H: l[1], Hs: l[3:6]}, r: top, n: (most + 1) / 2, bit: 1, bitCoins: []int{1, top, 0}, m: 1, coins: coinsIn(gr, 1, 4*((most+1)/2)-1), rs: []int{1, top}, l: []int{top, 0}, sumCoins: []int{top}, lo: 0, hi: 2, intervalCoins: intervalCoins(gr, 2, (most+1)/2)}
	least := rangeArgs{gr: gr, b: impl.Bases{H: gr.G}, n: 1, bitCoins: repeated(0, 3), coins: repeated(0, 3), rs: []int{0}, l: []int{0}, sumCoins: []int{0}, intervalCoins: repeated(0, 6)}
	longest := rangeArgs{gr: gr, b: impl.Bases{H: l[2], Hs: l[4 : 4+maxList]}, r: 1, n: most, bit: 1, bitCoins: repeated(top, 3), m: 1<<most - 1, coins: repeated(top, 4*most-1), rs: firstOf(gr.Q, maxList), l: repeated(top, maxList), sumCoins: []int{1}, lo: 0, hi: 1<<most - 1, intervalCoins: intervalCoins(gr, 5, most)}
	return []rangeArgs{withRanges(ordinary), withRanges(least), withRanges(longest)}
}

// allRangeStarts returns the valid arguments of all groups in which there are ranges.
func allRangeStarts() []rangeArgs {
	var starts []rangeArgs
	for _, gr := range rangeGroups() {
		starts = append(starts, rangeStarts(gr)...)
	}
	return starts
}

// TestRangesAccept shows that the arguments are refused for their faults alone.
func TestRangesAccept(t *testing.T) {
	for _, a := range allRangeStarts() {
		for _, f := range rangeCalls() {
			got := f.call(a)
			if !got.ok || slices.Contains(f.uses, "check") && got.text != "true" {
				t.Errorf("%s of %+v = %v, %v", f.name, a, got.text, got.ok)
			}
		}
	}
}

func TestRangesOfBadGroups(t *testing.T) {
	for _, gr := range badGroups {
		for _, other := range []impl.Group{exampleGroup, {P: 7, Q: 3, G: 2}} {
			for _, a := range rangeStarts(other) {
				a.gr = gr
				checkRefused(t, rangeCalls(), "", a)
			}
		}
	}
}

// withoutProofs returns arguments with empty proofs, which are refused for another argument all the same.
func withoutProofs(a rangeArgs) rangeArgs {
	a.p, a.x, a.sum, a.interval = impl.Proof{}, impl.RangeProof{}, impl.Proof{}, intervalProof{}
	return a
}

func TestRangesOfBadBases(t *testing.T) {
	for _, a := range allRangeStarts() {
		for _, b := range badBases(a.gr, a.b) {
			bad := a
			bad.b = b
			checkRefused(t, rangeCalls(), "b", bad)
			checkRefused(t, rangeCalls(), "b", withoutProofs(bad))
		}
	}
}

// TestRangesOfOtherGroups takes elements of another group with the same P, and exponents of one with a greater Q.
func TestRangesOfOtherGroups(t *testing.T) {
	a := rangeStarts(exampleGroup)[0]
	a.gr = impl.Group{P: 23, Q: 2, G: 22}
	checkRefused(t, rangeCalls(), "b", a)
	b := rangeStarts(impl.Group{P: 7, Q: 3, G: 2})[0]
	for use, change := range map[string]func(a *rangeArgs){
		"r":             func(a *rangeArgs) { a.r = 10 },
		"bitCoins":      func(a *rangeArgs) { a.bitCoins = []int{1, 10, 1} },
		"coins":         func(a *rangeArgs) { a.coins = []int{1, 1, 3} },
		"rs":            func(a *rangeArgs) { a.rs = []int{3, 0} },
		"l":             func(a *rangeArgs) { a.l = []int{0, 4} },
		"sumCoins":      func(a *rangeArgs) { a.sumCoins = []int{10} },
		"intervalCoins": func(a *rangeArgs) { a.intervalCoins = []int{0, 0, 0, 0, 0, 3} },
		"lo":            func(a *rangeArgs) { a.lo = 3 },
		"hi":            func(a *rangeArgs) { a.hi = 3 },
		"c":             func(a *rangeArgs) { a.c = 6 },
		"whole":         func(a *rangeArgs) { a.whole = 6 },
		"cs":            func(a *rangeArgs) { a.cs = []int{1, 3} },
		"total":         func(a *rangeArgs) { a.total = 3 },
	} {
		bad := b
		change(&bad)
		checkRefused(t, rangeCalls(), use, bad)
	}
}

// TestRangesOfBadElements takes integers that are no elements, some of which have the same residues as the right ones.
func TestRangesOfBadElements(t *testing.T) {
	for _, a := range allRangeStarts() {
		for use, place := range map[string]func(a *rangeArgs) *int{
			"c":     func(a *rangeArgs) *int { return &a.c },
			"whole": func(a *rangeArgs) *int { return &a.whole },
		} {
			right := *place(&a)
			for _, x := range append(notElements(a.gr), right+a.gr.P, right-a.gr.P, -right) {
				bad := a
				*place(&bad) = x
				checkRefused(t, rangeCalls(), use, bad)
				checkRefused(t, rangeCalls(), use, withoutProofs(bad))
			}
		}
	}
}

// TestSumsOfBadElements takes integers that are no elements at each place, some of which leave the product as it is, and no elements or too many.
func TestSumsOfBadElements(t *testing.T) {
	for _, a := range allRangeStarts() {
		for _, cs := range append(badElementLists(a.gr), nil, []int{}) {
			bad := a
			bad.cs = cs
			checkRefused(t, rangeCalls(), "cs", bad)
			checkRefused(t, rangeCalls(), "cs", withoutProofs(bad))
		}
		for i, c := range a.cs {
			for _, x := range []int{c + a.gr.P, c - a.gr.P, -c, 0} {
				bad := a
				bad.cs = replaced(a.cs, i, x)
				checkRefused(t, rangeCalls(), "cs", bad)
			}
		}
	}
}

// TestRangesOfBadExponents takes integers that are no exponents; some have the same residues as the right ones.
func TestRangesOfBadExponents(t *testing.T) {
	for _, a := range allRangeStarts() {
		for use, place := range map[string]func(a *rangeArgs) *int{
			"bit":   func(a *rangeArgs) *int { return &a.bit },
			"m":     func(a *rangeArgs) *int { return &a.m },
			"r":     func(a *rangeArgs) *int { return &a.r },
			"total": func(a *rangeArgs) *int { return &a.total },
			"lo":    func(a *rangeArgs) *int { return &a.lo },
			"hi":    func(a *rangeArgs) *int { return &a.hi },
		} {
			right := *place(&a)
			for _, e := range append(notExponents(a.gr), right+a.gr.Q, right-a.gr.Q) {
				bad := a
				*place(&bad) = e
				checkRefused(t, rangeCalls(), use, bad)
				checkRefused(t, rangeCalls(), use, withoutProofs(bad))
			}
		}
	}
}

// TestIntervalsOfBadExponents takes m, lo and hi that are no exponents, but with differences that are numbers of the range.
func TestIntervalsOfBadExponents(t *testing.T) {
	for _, a := range allRangeStarts() {
		for _, d := range []int{a.gr.Q, -a.gr.Q, a.gr.Q - a.lo, a.gr.Q - a.hi, -1 - a.lo, -1 - a.hi, math.MaxInt - a.hi, math.MinInt} {
			if d <= 0 && a.lo+d >= 0 || d >= 0 && a.hi+d < a.gr.Q {
				continue
			}
			checkNoInterval(t, a.gr, a.b, a.m+d, a.r, a.lo+d, a.hi+d, a.n, a.intervalCoins)
		}
	}
}

// TestRangesOfBadLists takes exponents that are none at each place, and lists of other lengths.
func TestRangesOfBadLists(t *testing.T) {
	for _, a := range allRangeStarts() {
		for use, place := range map[string]func(a *rangeArgs) *[]int{
			"bitCoins":      func(a *rangeArgs) *[]int { return &a.bitCoins },
			"coins":         func(a *rangeArgs) *[]int { return &a.coins },
			"rs":            func(a *rangeArgs) *[]int { return &a.rs },
			"l":             func(a *rangeArgs) *[]int { return &a.l },
			"sumCoins":      func(a *rangeArgs) *[]int { return &a.sumCoins },
			"intervalCoins": func(a *rangeArgs) *[]int { return &a.intervalCoins },
		} {
			for _, l := range badVariants(*place(&a), notExponents(a.gr)) {
				bad := a
				*place(&bad) = l
				checkRefused(t, rangeCalls(), use, bad)
			}
		}
	}
}

func TestRangesOfBadNumbersOfBits(t *testing.T) {
	for _, a := range allRangeStarts() {
		for _, n := range []int{math.MinInt, -1, 0, mostBits(a.gr) + 1, maxBitCount + 1, 64, 1 << 62, math.MaxInt} {
			bad := a
			bad.n = n
			checkRefused(t, rangeCalls(), "n", bad)
			checkRefused(t, rangeCalls(), "n", withoutProofs(bad))
		}
	}
}

// TestBitsAndSumsOfLeastGroups takes invalid arguments in groups of two elements, in which there are bits and sums, but no ranges.
func TestBitsAndSumsOfLeastGroups(t *testing.T) {
	for _, gr := range []impl.Group{{P: 3, Q: 2, G: 2}, {P: 23, Q: 2, G: 22}, largeGroups[1]} {
		a := rangeArgs{gr: gr, b: impl.Bases{H: gr.G}, r: 1, bit: 1, bitCoins: []int{0, 1, 1}, n: 1, m: 1, coins: []int{0, 1, 1}, rs: []int{1, 0}, l: []int{1, 1}, sumCoins: []int{1}, lo: 1, hi: 1, intervalCoins: []int{0, 1, 1, 1, 0, 1}}
		a = withRanges(a)
		for _, f := range rangeCalls() {
			if got := f.call(a); got.ok == slices.Contains(f.uses, "n") {
				t.Errorf("%s of %+v = %v, %v", f.name, a, got.text, got.ok)
			}
		}
		checkRefused(t, rangeCalls(), "n", a)
		for _, e := range notExponents(gr) {
			for use, change := range map[string]func(a *rangeArgs){
				"bit":      func(a *rangeArgs) { a.bit = e },
				"r":        func(a *rangeArgs) { a.r = e },
				"bitCoins": func(a *rangeArgs) { a.bitCoins = []int{0, 1, e} },
				"rs":       func(a *rangeArgs) { a.rs = []int{e, 0} },
				"l":        func(a *rangeArgs) { a.l = []int{1, e} },
				"sumCoins": func(a *rangeArgs) { a.sumCoins = []int{e} },
				"total":    func(a *rangeArgs) { a.total = e },
			} {
				bad := a
				change(&bad)
				checkRefused(t, rangeCalls(), use, bad)
			}
		}
	}
}
