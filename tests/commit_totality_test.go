package tests

import (
	"fmt"
	"math"
	"slices"
	"testing"

	"loop.example/g00878/impl"
)

// Promise 33 for chapter 9.

// commitWithSpare returns a copy of arguments with marked spare capacity behind all lists.
func commitWithSpare(a commitArgs) commitArgs {
	for _, list := range []*[]int{&a.b.Hs, &a.l, &a.elements, &a.exps, &a.coins} {
		*list = withSpare(*list)
	}
	a.p = proofWithSpare(a.p)
	return a
}

// commitMemory returns all lists among arguments, with the capacity behind them.
func commitMemory(a commitArgs) [][]int {
	lists := [][]int{a.b.Hs, a.l, a.elements, a.exps, a.coins, a.p.Commits, a.p.Challenges, a.p.Responses}
	for i, l := range lists {
		lists[i] = l[:cap(l)]
	}
	return lists
}

// checkCommitTotal calls all functions with copies of the lists and fails if one of them panics, has a result with false, or touches a list.
func checkCommitTotal(t *testing.T, a commitArgs) {
	t.Helper()
	given := commitWithSpare(a)
	before := slices.Concat(commitMemory(given)...)
	for _, f := range commitCalls() {
		if got := callSafely(t, f, given); !got.ok && !got.zero {
			t.Errorf("%s of %+v = %s, false", f.name, a, got.text)
		}
	}
	if after := slices.Concat(commitMemory(given)...); !slices.Equal(after, before) {
		t.Errorf("the functions changed %v to %v", before, after)
	}
}

func TestCommitOfNothingIsTotal(t *testing.T) {
	for _, gr := range anyGroups() {
		checkCommitTotal(t, commitArgs{gr: gr})
	}
}

// TestCommitOfExtremesIsTotal puts two extreme integers in all places.
func TestCommitOfExtremesIsTotal(t *testing.T) {
	for _, gr := range fewGroups() {
		for _, x := range extremes {
			for _, y := range extremes {
				checkCommitTotal(t, commitArgs{gr: gr, n: x, b: impl.Bases{H: x, Hs: []int{y}}, m: y, r: x, c: x, l: []int{x}, vector: y, elements: []int{x, y}, exps: []int{y, x},
					trapdoor: x, other: y, coins: []int{x, y}, p: impl.Proof{Commits: []int{x}, Challenges: []int{y}, Responses: []int{y, x}}})
			}
		}
	}
}

// TestCommitOfOneExtremeIsTotal puts one extreme integer in the place of a valid argument, so that it is not refused for another one.
func TestCommitOfOneExtremeIsTotal(t *testing.T) {
	for _, gr := range sigmaGroups {
		a := commitWithSpare(commitStarts(gr)[0])
		for _, place := range []*int{&a.gr.P, &a.gr.Q, &a.gr.G, &a.n, &a.b.H, &a.b.Hs[0], &a.b.Hs[2], &a.m, &a.r, &a.c, &a.l[1], &a.vector, &a.elements[1], &a.exps[0], &a.trapdoor, &a.other, &a.coins[1], &a.p.Commits[0], &a.p.Challenges[0], &a.p.Responses[1]} {
			kept := *place
			for _, x := range extremes {
				*place = x
				checkCommitTotal(t, a)
			}
			*place = kept
		}
	}
}

// TestCommitOfListsIsTotal takes extreme lists in the place of each list, and in all places.
func TestCommitOfListsIsTotal(t *testing.T) {
	lists := append(extremeLists(), repeated(2, maxList), repeated(2, maxList+1))
	for _, gr := range []impl.Group{exampleGroup, topGroup, {P: 3, Q: 2, G: 2}, {P: 22, Q: 11, G: 2}, {}} {
		for _, start := range commitStarts(exampleGroup) {
			start.gr = gr
			all := start
			places := []*[]int{&all.b.Hs, &all.l, &all.elements, &all.exps, &all.coins, &all.p.Commits, &all.p.Challenges, &all.p.Responses}
			for _, l := range lists {
				for _, place := range places {
					kept := *place
					*place = l
					checkCommitTotal(t, all)
					*place = kept
				}
			}
			for i, l := range lists {
				for _, place := range places {
					*place = l
				}
				checkCommitTotal(t, all)
				all.exps, all.l = lists[(i+3)%len(lists)], lists[(i+5)%len(lists)]
				checkCommitTotal(t, all)
			}
		}
	}
}

// TestCommitKeepsValidLists takes arguments for which all calls succeed, too.
func TestCommitKeepsValidLists(t *testing.T) {
	for _, a := range allCommitStarts() {
		checkCommitTotal(t, a)
	}
}

// TestCommitOfSharedMemory takes lists that lie behind each other in one array, and one list for all.
func TestCommitOfSharedMemory(t *testing.T) {
	array := []int{4, 9, 1, 2, 6, 7}
	b := impl.Bases{H: 3, Hs: array[:2]}
	got, ok := impl.CommitVector(exampleGroup, b, array[2:4], 0)
	checkInt(t, "CommitVector of parts of an array", 2, got, ok)
	got, ok = impl.CommitVector(exampleGroup, b, array[:2], 5)
	checkInt(t, "CommitVector of the bases as exponents", wantVector(exampleGroup, b, []int{4, 9}, 5), got, ok)
	got, ok = impl.CombineCommits(exampleGroup, array[:2], array[:2])
	checkInt(t, "CombineCommits of one list", wantProduct(exampleGroup, []int{4, 9}, []int{4, 9}), got, ok)
	p, ok := impl.ProveOpening(exampleGroup, b, 2, 5, array[2:4])
	checkProof(t, "ProveOpening of parts of an array", wantOpening(exampleGroup, 3, 2, 5, []int{1, 2}), p, ok)
	if !slices.Equal(array, []int{4, 9, 1, 2, 6, 7}) {
		t.Errorf("the functions changed the array to %v", array)
	}
}

// TestOpeningProofsShareNoMemory takes m and r of 0, too, for which the coins are the responses.
func TestOpeningProofsShareNoMemory(t *testing.T) {
	for _, start := range allCommitStarts() {
		a := commitWithSpare(start)
		before := slices.Concat(commitMemory(a)...)
		first, _ := impl.ProveOpening(a.gr, a.b, a.m, a.r, a.coins)
		second, ok := impl.ProveOpening(a.gr, a.b, a.m, a.r, a.coins)
		want := fmt.Sprint(second)
		for _, list := range listsOfProof(&first) {
			kept := slices.Clone(*list)
			overwrite(*list)
			*list = kept
			if got := fmt.Sprint(first); got != want {
				t.Errorf("the lists of a proof share memory: %s, %s", want, got)
			}
		}
		if after := slices.Concat(commitMemory(a)...); !slices.Equal(after, before) {
			t.Errorf("a change of a proof changed %v to %v", before, after)
		}
		for _, list := range commitMemory(a) {
			overwrite(list)
		}
		if !ok || fmt.Sprint(second) != want {
			t.Errorf("a change of the arguments %+v changed a proof", start)
		}
	}
}

func TestBasesOfKeepsNoMemory(t *testing.T) {
	for _, gr := range sigmaGroups {
		for _, n := range []int{0, 1, 5, maxList} {
			checkOwnResult(t, fmt.Sprintf("BasesOf(%v, %d)", gr, n), func() ([]int, bool) {
				b, ok := impl.BasesOf(gr, n)
				return b.Hs, ok
			}, func() {})
		}
	}
}

// TestCommitRepeats checks that a call does not depend on earlier calls.
func TestCommitRepeats(t *testing.T) {
	calls := func() string {
		text := ""
		for _, f := range commitCalls() {
			got := f.call(commitStarts(exampleGroup)[0])
			text += fmt.Sprint(f.name, got.text, got.ok, " ")
		}
		return text
	}
	want := calls()
	for _, gr := range append(slices.Clone(largeGroups), badGroups...) {
		for _, f := range commitCalls() {
			a := commitStarts(exampleGroup)[2]
			a.gr = gr
			f.call(a)
		}
		if got := calls(); got != want {
			t.Errorf("the same calls returned %s and then %s", want, got)
		}
	}
	impl.Equivocate(exampleGroup, math.MaxInt, math.MinInt, math.MaxInt, 0)
	if got := calls(); got != want {
		t.Errorf("the same calls returned %s and then %s", want, got)
	}
}
