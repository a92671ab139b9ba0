package tests

import (
	"fmt"
	"math"
	"slices"
	"testing"

	"loop.example/g00878/impl"
)

// Promise 33 for chapter 10.

// listsOfRange returns the addresses of the lists of integers of the proof of a range.
func listsOfRange(x *impl.RangeProof) []*[]int {
	lists := []*[]int{&x.Bits}
	for i := range x.Proofs {
		lists = append(lists, listsOfProof(&x.Proofs[i])...)
	}
	return lists
}

// proofsWithSpare returns a copy of the proof of a range with one more proof of a bit behind its list of these. The lists of integers are not copied.
func proofsWithSpare(x impl.RangeProof) impl.RangeProof {
	proofs := append(slices.Clone(x.Proofs), impl.Proof{Commits: []int{spareMark}})
	return impl.RangeProof{Bits: x.Bits, Proofs: proofs[:len(x.Proofs)]}
}

// rangeLists returns the addresses of all lists of integers among arguments.
func rangeLists(a *rangeArgs) []*[]int {
	lists := []*[]int{&a.b.Hs, &a.bitCoins, &a.coins, &a.rs, &a.l, &a.sumCoins, &a.cs, &a.intervalCoins}
	return slices.Concat(lists, listsOfProof(&a.p), listsOfProof(&a.sum), listsOfRange(&a.x), listsOfRange(&a.interval.x), listsOfRange(&a.interval.y))
}

// argsOfRangesWithSpare returns a copy of arguments with marked spare capacity behind all lists.
func argsOfRangesWithSpare(a rangeArgs) rangeArgs {
	a.x, a.interval = proofsWithSpare(a.x), intervalProof{proofsWithSpare(a.interval.x), proofsWithSpare(a.interval.y)}
	for _, list := range rangeLists(&a) {
		*list = withSpare(*list)
	}
	return a
}

// rangeMemory returns all lists of integers among arguments, with the capacity behind them and behind the lists of proofs.
func rangeMemory(a rangeArgs) [][]int {
	for _, x := range []*impl.RangeProof{&a.x, &a.interval.x, &a.interval.y} {
		x.Proofs = x.Proofs[:cap(x.Proofs)]
	}
	var lists [][]int
	for _, list := range rangeLists(&a) {
		lists = append(lists, *list)
	}
	for i, l := range lists {
		lists[i] = l[:cap(l)]
	}
	return lists
}

// checkRangesTotal calls all functions with copies of the lists and fails if one of them panics, has a result with false, or touches a list.
func checkRangesTotal(t *testing.T, a rangeArgs) {
	t.Helper()
	given := argsOfRangesWithSpare(a)
	before := slices.Concat(rangeMemory(given)...)
	for _, f := range rangeCalls() {
		if got := callSafely(t, f, given); !got.ok && !got.zero {
			t.Errorf("%s of %+v = %s, false", f.name, a, got.text)
		}
	}
	if after := slices.Concat(rangeMemory(given)...); !slices.Equal(after, before) {
		t.Errorf("the functions changed %v to %v", before, after)
	}
}

func TestRangesOfNothingAreTotal(t *testing.T) {
	for _, gr := range anyGroups() {
		checkRangesTotal(t, rangeArgs{gr: gr})
	}
}

func TestCoinsForRangeIsTotal(t *testing.T) {
	for _, n := range extremes {
		mustNotPanic(t, fmt.Sprintf("CoinsForRange(%d)", n), func() {
			if coins, ok := impl.CoinsForRange(n); ok != (1 <= n && n <= maxBitCount) || ok != (coins > 0) {
				t.Errorf("CoinsForRange(%d) = %d, %v", n, coins, ok)
			}
		})
	}
}

// TestRangesOfExtremesAreTotal puts two extreme integers in all places.
func TestRangesOfExtremesAreTotal(t *testing.T) {
	for _, gr := range fewGroups() {
		for _, x := range extremes {
			for _, y := range extremes {
				p := impl.Proof{Commits: []int{x, y}, Challenges: []int{y, x}, Responses: []int{x, y}}
				s := impl.Proof{Commits: []int{y}, Challenges: []int{x}, Responses: []int{y}}
				whole := impl.RangeProof{Bits: []int{y}, Proofs: []impl.Proof{p}}
				checkRangesTotal(t, rangeArgs{gr: gr, b: impl.Bases{H: x, Hs: []int{y}}, r: x, n: y, bit: y, bitCoins: []int{x, y, x}, c: x, p: p, m: y, coins: []int{y, x, y}, whole: y, x: whole,
					rs: []int{x}, l: []int{y}, sumCoins: []int{x}, cs: []int{x, y}, total: y, sum: s, lo: x, hi: y, intervalCoins: []int{x, y, x, y, x, y}, interval: intervalProof{whole, whole}})
			}
		}
	}
}

// rangePlaces returns the places of all integers among arguments that stand for themselves, and of one of each list.
func rangePlaces(a *rangeArgs) []*int {
	places := []*int{&a.gr.P, &a.gr.Q, &a.gr.G, &a.b.H, &a.r, &a.n, &a.bit, &a.c, &a.m, &a.whole, &a.total, &a.lo, &a.hi}
	for _, list := range rangeLists(a) {
		places = append(places, &(*list)[0])
	}
	return places
}

// TestRangesOfOneExtremeAreTotal puts one extreme integer in the place of a valid argument, so that it is not refused for another one.
func TestRangesOfOneExtremeAreTotal(t *testing.T) {
	for _, gr := range []impl.Group{exampleGroup, {P: 7, Q: 3, G: 2}, {P: 11, Q: 5, G: 3}, edgeGroups[0], topGroup} {
		a := argsOfRangesWithSpare(rangeStarts(gr)[0])
		for _, place := range rangePlaces(&a) {
			kept := *place
			for _, x := range extremes {
				*place = x
				checkRangesTotal(t, a)
			}
			*place = kept
		}
	}
}

// TestRangesOfTwoExtremesAreTotal puts two extreme integers in the places of m, r, n and the bounds of an interval, so that their differences leave the integers.
func TestRangesOfTwoExtremesAreTotal(t *testing.T) {
	for _, gr := range []impl.Group{exampleGroup, topGroup, {P: 23, Q: 0, G: 2}, {P: 23, Q: math.MaxInt, G: 2}, {P: 23, Q: math.MinInt, G: 2}} {
		a := rangeStarts(exampleGroup)[0]
		a.gr = gr
		places := []*int{&a.m, &a.r, &a.n, &a.lo, &a.hi, &a.whole}
		for i, place := range places {
			for _, other := range places[:i] {
				kept, keptOther := *place, *other
				for _, x := range extremes {
					for _, y := range extremes {
						*place, *other = x, y
						checkRangesTotal(t, a)
					}
				}
				*place, *other = kept, keptOther
			}
		}
	}
}

// TestRangesOfListsAreTotal takes extreme lists in the place of each list, and in all places.
func TestRangesOfListsAreTotal(t *testing.T) {
	lists := append(slices.DeleteFunc(extremeLists(), func(l []int) bool { return len(l) > 1000 }), repeated(2, maxList), repeated(2, maxList+1), repeated(2, 3), repeated(2, 7), repeated(2, 11))
	for _, gr := range []impl.Group{exampleGroup, topGroup, {P: 7, Q: 3, G: 2}, {P: 22, Q: 11, G: 2}, {}} {
		start := rangeStarts(exampleGroup)[0]
		start.gr = gr
		places := rangeLists(&start)
		for _, l := range lists {
			for _, place := range places {
				kept := *place
				*place = l
				checkRangesTotal(t, start)
				*place = kept
			}
		}
		for _, l := range lists {
			for _, place := range places {
				*place = l
			}
			checkRangesTotal(t, start)
		}
	}
}

// TestRangesOfLongListsAreTotal takes lists that are far too long, also of proofs.
func TestRangesOfLongListsAreTotal(t *testing.T) {
	long := repeated(1, 10000)
	for _, start := range rangeStarts(exampleGroup) {
		for _, x := range []impl.RangeProof{{Bits: long}, {Proofs: make([]impl.Proof, 10000)}, {Bits: long, Proofs: make([]impl.Proof, 10000)}, {Bits: start.x.Bits, Proofs: slices.Repeat([]impl.Proof{{Commits: long, Challenges: long, Responses: long}}, start.n)}} {
			a := start
			a.x, a.interval = x, intervalProof{x, x}
			checkRangesTotal(t, a)
			a.coins, a.intervalCoins, a.bitCoins, a.sumCoins, a.rs, a.l, a.cs = long, long, long, long, long, long, long
			checkRangesTotal(t, a)
		}
	}
}

// TestRangesKeepValidLists takes arguments for which all calls succeed, too.
func TestRangesKeepValidLists(t *testing.T) {
	for _, a := range allRangeStarts() {
		checkRangesTotal(t, a)
	}
}

// TestRangesOfSharedMemory takes lists that lie behind each other in one array, one list for all, and one proof for all bits.
func TestRangesOfSharedMemory(t *testing.T) {
	array := []int{1, 2, 3, 4, 5, 6, 7, 8, 9, 10, 0, 1}
	before := slices.Clone(array)
	b := impl.Bases{H: exampleBase, Hs: array[1:2]}
	p, ok := impl.ProveBit(exampleGroup, b, 1, 4, array[1:4])
	checkProof(t, "ProveBit of a part of an array", wantBit(exampleGroup, exampleBase, 1, 4, []int{2, 3, 4}), p, ok)
	x, ok := impl.ProveRange(exampleGroup, b, 5, 3, 3, array[:11])
	checkRangeProof(t, "ProveRange of a part of an array", wantRange(exampleGroup, exampleBase, 5, 3, 3, before[:11]), x, ok)
	p, ok = impl.ProveSum(exampleGroup, b, array[2:5], array[2:5], array[2:3])
	checkProof(t, "ProveSum of one list", wantSum(exampleGroup, exampleBase, []int{3, 4, 5}, []int{3, 4, 5}, 3), p, ok)
	got, ok := proveInterval(exampleGroup, b, 5, 3, 4, 6, 1, array[:6])
	if want := wantInterval(exampleGroup, exampleBase, 5, 3, 4, 6, 1, before[:6]); !ok || !same(got, want) {
		t.Errorf("ProveInterval of a part of an array = %v, %v; want %v, true", got, ok, want)
	}
	bit := wantBit(exampleGroup, exampleBase, 1, 0, []int{2, 5, 7})
	one := impl.RangeProof{Bits: []int{2, 2, 2}, Proofs: []impl.Proof{bit, bit, bit}}
	is, ok := impl.VerifyRange(exampleGroup, b, 13, 3, one)
	checkVerdict(t, "VerifyRange of one proof for all bits", true, is, ok)
	if !slices.Equal(array, before) {
		t.Errorf("the functions changed the array to %v", array)
	}
}

// checkOwnRanges fails if the lists of a result share memory with each other, with another result or with the arguments.
func checkOwnRanges(t *testing.T, name string, start rangeArgs, prove func(a rangeArgs) ([]impl.RangeProof, bool)) {
	t.Helper()
	a := argsOfRangesWithSpare(start)
	before := slices.Concat(rangeMemory(a)...)
	first, _ := prove(a)
	second, _ := prove(a)
	want := fmt.Sprint(second)
	for i := range first {
		for _, list := range listsOfRange(&first[i]) {
			kept := slices.Clone(*list)
			overwrite(*list)
			*list = kept
			if got := fmt.Sprint(first); got != want {
				t.Errorf("the lists of the result of %s share memory: %s, %s", name, want, got)
			}
		}
		if proofs := first[i].Proofs; len(proofs) > 0 {
			first[i].Proofs = slices.Clone(proofs)
			clear(proofs[:cap(proofs)])
			if got := fmt.Sprint(first); got != want {
				t.Errorf("the proofs of the result of %s share memory: %s, %s", name, want, got)
			}
		}
	}
	third, ok := prove(a)
	if after := slices.Concat(rangeMemory(a)...); !slices.Equal(after, before) {
		t.Errorf("a change of the result of %s changed %v to %v", name, before, after)
	}
	for _, list := range rangeMemory(a) {
		overwrite(list)
	}
	if !ok || fmt.Sprint(second) != want || fmt.Sprint(third) != want {
		t.Errorf("results of %s of %+v share memory", name, start)
	}
}

// ofProof returns a proof as the only one of a range, so that it is checked like one.
func ofProof(p impl.Proof, ok bool) ([]impl.RangeProof, bool) {
	return []impl.RangeProof{{Proofs: []impl.Proof{p}}}, ok
}

// TestRangeProofsShareNoMemory takes exponents of 0, too, for which the coins are the responses.
func TestRangeProofsShareNoMemory(t *testing.T) {
	for _, a := range allRangeStarts() {
		checkOwnRanges(t, "ProveBit", a, func(a rangeArgs) ([]impl.RangeProof, bool) {
			return ofProof(impl.ProveBit(a.gr, a.b, a.bit, a.r, a.bitCoins))
		})
		checkOwnRanges(t, "ProveBit of 0 with 0", a, func(a rangeArgs) ([]impl.RangeProof, bool) {
			return ofProof(impl.ProveBit(a.gr, a.b, 0, 0, a.bitCoins))
		})
		checkOwnRanges(t, "ProveSum", a, func(a rangeArgs) ([]impl.RangeProof, bool) {
			return ofProof(impl.ProveSum(a.gr, a.b, a.rs, a.l, a.sumCoins))
		})
		checkOwnRanges(t, "ProveRange", a, func(a rangeArgs) ([]impl.RangeProof, bool) {
			x, ok := impl.ProveRange(a.gr, a.b, a.m, a.r, a.n, a.coins)
			return []impl.RangeProof{x}, ok
		})
		checkOwnRanges(t, "ProveInterval", a, func(a rangeArgs) ([]impl.RangeProof, bool) {
			x, y, ok := impl.ProveInterval(a.gr, a.b, a.m, a.r, a.lo, a.hi, a.n, a.intervalCoins)
			return []impl.RangeProof{x, y}, ok
		})
	}
}

// TestRangesRepeat checks that a call does not depend on earlier calls.
func TestRangesRepeat(t *testing.T) {
	calls := func() string {
		text := ""
		for _, f := range rangeCalls() {
			got := f.call(rangeStarts(exampleGroup)[0])
			text += fmt.Sprint(f.name, got.text, got.ok, " ")
		}
		coins, ok := impl.CoinsForRange(3)
		return text + fmt.Sprint(coins, ok)
	}
	want := calls()
	for _, gr := range append(slices.Clone(largeGroups), badGroups...) {
		for _, f := range rangeCalls() {
			a := rangeStarts(exampleGroup)[2]
			a.gr = gr
			f.call(a)
		}
		impl.CoinsForRange(gr.Q)
		if got := calls(); got != want {
			t.Errorf("the same calls returned %s and then %s", want, got)
		}
	}
}
