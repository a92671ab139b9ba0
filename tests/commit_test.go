package tests

import (
	"fmt"
	"math"
	"slices"
	"testing"

	"loop.example/g00878/impl"
)

// Promise 9: commitments multiply to commitments to sums, proofs of openings are accepted, and a trapdoor opens to any value.
// This file covers bases, commitments and their combinations. The expected values are products of powers by big integers; some come from a calculation outside this program.

// exampleBases are the bases of the document's examples, for exampleGroup.
var exampleBases = impl.Bases{H: 3, Hs: []int{4, 9}}

// basesIn returns elements of a group other than 1: the generator, its inverse and others.
func basesIn(gr impl.Group) []int {
	return slices.DeleteFunc(someElements(gr), func(x int) bool { return x == 1 })
}

// someBases returns bases with no Hs, with a few and with MaxList of them; some of them are G or the same.
func someBases(gr impl.Group) []impl.Bases {
	l := basesIn(gr)
	return []impl.Bases{{H: gr.G}, {H: l[2], Hs: []int{}}, {H: l[1], Hs: l[3:4]}, {H: l[4], Hs: []int{gr.G, l[4]}}, {H: l[5], Hs: l[6:13]}, {H: l[3], Hs: repeated(gr.G, maxList)}, {H: l[6], Hs: l[1 : 1+maxList]}}
}

// wantCommit returns the commitment to an integer.
func wantCommit(gr impl.Group, h int, m int, r int) int {
	return wantProduct(gr, []int{gr.G, h}, []int{m, r})
}

// wantVector returns the commitment to a list.
func wantVector(gr impl.Group, b impl.Bases, l []int, r int) int {
	return wantProduct(gr, append([]int{b.H}, b.Hs[:len(l)]...), append([]int{r}, l...))
}

// checkBases fails unless a call returned the wanted bases and true.
func checkBases(t *testing.T, name string, want impl.Bases, got impl.Bases, ok bool) {
	t.Helper()
	if !ok || got.H != want.H || !slices.Equal(got.Hs, want.Hs) {
		t.Errorf("%s = %v, %v; want %v, true", name, got, ok, want)
	}
}

func TestBasesOfExamples(t *testing.T) {
	for _, c := range []struct {
		gr   impl.Group
		want impl.Bases
	}{
		{exampleGroup, impl.Bases{H: 16}},
		{exampleGroup, impl.Bases{H: 16, Hs: []int{9, 13, 18}}},
		{topGroup, impl.Bases{H: 1919288576, Hs: []int{1012793968, 916987848, 722149308}}},
		{impl.Group{P: 3, Q: 2, G: 2}, impl.Bases{H: 2, Hs: []int{2, 2, 2}}},
		{impl.Group{P: 7, Q: 3, G: 2}, impl.Bases{H: 4, Hs: []int{2, 2, 2}}},
	} {
		got, ok := impl.BasesOf(c.gr, len(c.want.Hs))
		checkBases(t, fmt.Sprintf("BasesOf(%v, %d)", c.gr, len(c.want.Hs)), c.want, got, ok)
	}
}

func TestBasesOfAllGroups(t *testing.T) {
	for _, gr := range allGroups() {
		for _, n := range []int{0, 1, 2, 11, maxList - 1, maxList} {
			name := fmt.Sprintf("BasesOf(%v, %d)", gr, n)
			h, _ := wantDerived(gr, "h", 0)
			want := impl.Bases{H: h}
			for k := range n {
				x, _ := wantDerived(gr, "hs", k)
				want.Hs = append(want.Hs, x)
			}
			got, ok := impl.BasesOf(gr, n)
			checkBases(t, name, want, got, ok)
			if !impl.IsValidBases(gr, got) {
				t.Errorf("%s = %v are not valid", name, got)
			}
		}
	}
}

// TestBasesOfBadNumbers takes numbers up to that of DeriveElements and beyond.
func TestBasesOfBadNumbers(t *testing.T) {
	for _, gr := range append(allGroups(), badGroups...) {
		for _, n := range []int{math.MinInt, -maxList, -1, maxList + 1, 2 * maxList, 100, 101, 1000000, 1 << 32, math.MaxInt} {
			got, ok := impl.BasesOf(gr, n)
			checkNone(t, fmt.Sprintf("BasesOf(%v, %d)", gr, n), got, ok)
		}
	}
}

// checkValidBases fails unless IsValidBases reports what is wanted.
func checkValidBases(t *testing.T, gr impl.Group, b impl.Bases, want bool) {
	t.Helper()
	if got := impl.IsValidBases(gr, b); got != want {
		t.Errorf("IsValidBases(%v, %v) = %v", gr, b, got)
	}
}

func TestIsValidBasesExamples(t *testing.T) {
	for _, b := range []impl.Bases{exampleBases, {H: 3}, {H: 2}, {H: 2, Hs: []int{2, 2}}, {H: 18, Hs: repeated(16, maxList)}} {
		checkValidBases(t, exampleGroup, b, true)
	}
	for _, b := range []impl.Bases{{}, {H: 1}, {H: 5}, {H: 22}, {H: 1, Hs: []int{4, 9}}, {H: 3, Hs: []int{4, 1}}, {H: 3, Hs: []int{1, 9}}, {H: 3, Hs: []int{4, 5}}, {H: 3, Hs: []int{0}}, {Hs: []int{4, 9}}, {H: 3, Hs: repeated(4, maxList+1)}} {
		checkValidBases(t, exampleGroup, b, false)
	}
}

// TestIsValidBasesOfSmallGroups takes all integers of a range as H and as one of Hs.
func TestIsValidBasesOfSmallGroups(t *testing.T) {
	for _, gr := range smallGroups() {
		elements := elementsIn(gr)[1:]
		for h := -2; h < gr.P+3; h++ {
			isBase := slices.Contains(elements, h)
			checkValidBases(t, gr, impl.Bases{H: h}, isBase)
			for x := -2; x < gr.P+3; x++ {
				want := isBase && slices.Contains(elements, x)
				checkValidBases(t, gr, impl.Bases{H: h, Hs: []int{x}}, want)
				checkValidBases(t, gr, impl.Bases{H: h, Hs: []int{gr.G, x}}, want)
				checkValidBases(t, gr, impl.Bases{H: h, Hs: []int{x, gr.G}}, want)
			}
		}
	}
}

func TestIsValidBasesOfAllGroups(t *testing.T) {
	for _, gr := range allGroups() {
		for _, b := range someBases(gr) {
			checkValidBases(t, gr, b, true)
			for _, other := range badBases(gr, b) {
				checkValidBases(t, gr, other, false)
			}
			for _, bad := range badGroups {
				checkValidBases(t, bad, b, false)
			}
		}
	}
}

func TestCommitExamples(t *testing.T) {
	for _, c := range []struct {
		gr         impl.Group
		b          impl.Bases
		m, r, want int
	}{
		{exampleGroup, exampleBases, 2, 5, 6}, {exampleGroup, exampleBases, 0, 0, 1}, {exampleGroup, exampleBases, 0, 1, 3}, {exampleGroup, exampleBases, 1, 0, 2},
		{exampleGroup, exampleBases, 10, 10, 4}, {exampleGroup, impl.Bases{H: 2}, 3, 4, 13}, {exampleGroup, impl.Bases{H: 2}, 3, 8, 1},
		{impl.Group{P: 3, Q: 2, G: 2}, impl.Bases{H: 2}, 1, 0, 2}, {impl.Group{P: 3, Q: 2, G: 2}, impl.Bases{H: 2}, 1, 1, 1},
		{topGroup, impl.Bases{H: 1919288576}, 999999190, 500000000, 1438314281},
	} {
		got, ok := impl.Commit(c.gr, c.b, c.m, c.r)
		checkInt(t, fmt.Sprintf("Commit(%v, %v, %d, %d)", c.gr, c.b, c.m, c.r), c.want, got, ok)
	}
}

func TestCheckOpeningExamples(t *testing.T) {
	for _, c := range []struct {
		c, m, r int
		want    bool
	}{
		{6, 2, 5, true}, {6, 2, 4, false}, {6, 3, 5, false}, {8, 2, 5, false}, {1, 2, 5, false}, {1, 0, 0, true}, {4, 10, 10, true}, {4, 10, 9, false},
		// 3 is the power of 2 with 8, so that 6 has other openings, too.
		{6, 10, 4, true}, {6, 9, 0, true},
	} {
		got, ok := impl.CheckOpening(exampleGroup, exampleBases, c.c, c.m, c.r)
		checkVerdict(t, fmt.Sprintf("CheckOpening(%d, %d, %d)", c.c, c.m, c.r), c.want, got, ok)
	}
}

// checkCommit compares the commitment to an integer with the expected one, and checks its opening and the same opening of other elements.
func checkCommit(t *testing.T, gr impl.Group, b impl.Bases, m int, r int, others []int) {
	t.Helper()
	of := fmt.Sprintf("(%v, %v, %d, %d)", gr, b, m, r)
	want := wantCommit(gr, b.H, m, r)
	c, ok := impl.Commit(gr, b, m, r)
	checkInt(t, "Commit"+of, want, c, ok)
	is, ok := impl.CheckOpening(gr, b, want, m, r)
	checkVerdict(t, "CheckOpening of the commitment"+of, true, is, ok)
	for _, x := range others {
		is, ok = impl.CheckOpening(gr, b, x, m, r)
		checkVerdict(t, fmt.Sprint("CheckOpening of ", x, of), x == want, is, ok)
	}
}

// TestCommitOfSmallGroups takes all bases H, all m and r and all elements of groups with at most 11 elements.
func TestCommitOfSmallGroups(t *testing.T) {
	for _, gr := range smallGroups() {
		if gr.Q > 11 {
			continue
		}
		elements := elementsIn(gr)
		for _, h := range elements[1:] {
			for _, l := range listsIn(gr.Q, 2) {
				checkCommit(t, gr, impl.Bases{H: h}, l[0], l[1], elements)
			}
		}
	}
}

func TestCommitOfAllGroups(t *testing.T) {
	for _, gr := range allGroups() {
		for _, b := range someBases(gr) {
			for _, m := range someExponents(gr) {
				for _, r := range someExponents(gr) {
					checkCommit(t, gr, b, m, r, []int{1, gr.G, b.H, wantCommit(gr, b.H, (m+1)%gr.Q, r), wantCommit(gr, b.H, m, (r+gr.Q-1)%gr.Q)})
				}
			}
		}
	}
}

// TestCommitIgnoresHs takes the same H with other Hs.
func TestCommitIgnoresHs(t *testing.T) {
	for _, gr := range allGroups() {
		for _, b := range someBases(gr) {
			got, ok := impl.Commit(gr, impl.Bases{H: gr.G, Hs: b.Hs}, 1, gr.Q-1)
			checkInt(t, fmt.Sprintf("Commit in %v with the bases %v", gr, b.Hs), 1, got, ok)
		}
	}
}

func TestCommitVectorExamples(t *testing.T) {
	long := impl.Bases{H: 3, Hs: repeated(4, maxList)}
	top := impl.Bases{H: 1919288576, Hs: []int{1012793968, 916987848, 722149308}}
	for _, c := range []struct {
		gr      impl.Group
		b       impl.Bases
		l       []int
		r, want int
	}{
		{exampleGroup, exampleBases, []int{1, 2}, 0, 2}, {exampleGroup, exampleBases, []int{1, 2}, 1, 6}, {exampleGroup, exampleBases, []int{2, 1}, 0, 6},
		{exampleGroup, exampleBases, []int{1}, 0, 4}, {exampleGroup, exampleBases, []int{0, 1}, 0, 9}, {exampleGroup, exampleBases, nil, 5, 13}, {exampleGroup, exampleBases, []int{}, 0, 1},
		{exampleGroup, impl.Bases{H: 3}, nil, 5, 13}, {exampleGroup, long, repeated(1, maxList), 0, 16}, {exampleGroup, long, repeated(10, maxList), 1, 16}, {exampleGroup, long, []int{1}, 1, 12},
		{topGroup, top, []int{999999190, 3, 500000000}, 7, 344993446},
	} {
		name := fmt.Sprintf("Vector(%v, %v, %v, %d)", c.gr, c.b, c.l, c.r)
		got, ok := impl.CommitVector(c.gr, c.b, c.l, c.r)
		checkInt(t, "Commit"+name, c.want, got, ok)
		is, ok := impl.CheckVector(c.gr, c.b, c.want, c.l, c.r)
		checkVerdict(t, "Check"+name, true, is, ok)
	}
}

// checkVector compares the commitment to a list with the expected one, and checks it and other elements with the same list.
func checkVector(t *testing.T, gr impl.Group, b impl.Bases, l []int, r int, others []int) {
	t.Helper()
	of := fmt.Sprintf("(%v, %v, %v, %d)", gr, b, l, r)
	want := wantVector(gr, b, l, r)
	c, ok := impl.CommitVector(gr, b, l, r)
	checkInt(t, "CommitVector"+of, want, c, ok)
	is, ok := impl.CheckVector(gr, b, want, l, r)
	checkVerdict(t, "CheckVector of the commitment"+of, true, is, ok)
	for _, x := range others {
		is, ok = impl.CheckVector(gr, b, x, l, r)
		checkVerdict(t, fmt.Sprint("CheckVector of ", x, of), x == want, is, ok)
	}
}

// TestCommitVectorOfSmallGroups takes all pairs of bases, all lists of up to two exponents and all elements of groups with 2 or 3 elements.
func TestCommitVectorOfSmallGroups(t *testing.T) {
	for _, gr := range smallGroups() {
		if gr.Q > 3 {
			continue
		}
		elements := elementsIn(gr)
		for _, bases := range listsIn(gr.Q-1, 3) {
			b := impl.Bases{H: elements[1+bases[0]], Hs: []int{elements[1+bases[1]], elements[1+bases[2]]}}
			for _, l := range smallLists(gr.Q, 2) {
				for r := range gr.Q {
					checkVector(t, gr, b, l, r, elements)
				}
			}
		}
	}
}

// TestCommitVectorOfAllLengths takes lists of all lengths up to that of Hs, for Hs of all lengths up to MaxList.
func TestCommitVectorOfAllLengths(t *testing.T) {
	for _, gr := range []impl.Group{exampleGroup, topGroup, {P: 3, Q: 2, G: 2}} {
		for n := range maxList + 1 {
			b := impl.Bases{H: gr.G, Hs: basesIn(gr)[1 : 1+n]}
			for k := range n + 1 {
				checkVector(t, gr, b, someResidues(gr.Q)[k:2*k], k%gr.Q, []int{1})
			}
		}
	}
}

func TestCommitVectorOfAllGroups(t *testing.T) {
	for _, gr := range allGroups() {
		for _, b := range someBases(gr) {
			n := len(b.Hs)
			for _, l := range slices.Concat(exponentLists(gr, n), exponentLists(gr, n/2), [][]int{nil}) {
				for _, r := range someExponents(gr)[:5] {
					checkVector(t, gr, b, l, r, []int{1, gr.G, b.H, wantVector(gr, b, l, (r+1)%gr.Q)})
				}
			}
		}
	}
}

// TestCheckVectorOfChangedLists changes one exponent of a list, which changes the commitment.
func TestCheckVectorOfChangedLists(t *testing.T) {
	for _, gr := range allGroups() {
		for _, b := range someBases(gr) {
			l := someResidues(gr.Q)[7 : 7+len(b.Hs)]
			c := wantVector(gr, b, l, 1)
			for i, e := range l {
				is, ok := impl.CheckVector(gr, b, c, replaced(l, i, (e+1)%gr.Q), 1)
				checkVerdict(t, fmt.Sprintf("CheckVector(%v, %v, %d) of %v changed at %d", gr, b, c, l, i), false, is, ok)
			}
			is, ok := impl.CheckVector(gr, b, c, l, 0)
			checkVerdict(t, fmt.Sprintf("CheckVector(%v, %v, %d) of %v and 0", gr, b, c, l), false, is, ok)
		}
	}
}

// TestVectorsOfTooManyExponents takes lists that are longer than Hs, by one or by far, up to MaxList and beyond.
func TestVectorsOfTooManyExponents(t *testing.T) {
	for _, gr := range allGroups() {
		for _, b := range someBases(gr) {
			for _, n := range []int{len(b.Hs) + 1, len(b.Hs) + 2, maxList + 1, 1000} {
				for _, e := range []int{0, 1} {
					got, ok := impl.CommitVector(gr, b, repeated(e, n), 0)
					checkNoInt(t, fmt.Sprintf("CommitVector(%v, %v) of %d exponents", gr, b, n), got, ok)
					is, ok := impl.CheckVector(gr, b, 1, repeated(e, n), 0)
					checkNone(t, fmt.Sprintf("CheckVector(%v, %v) of %d exponents", gr, b, n), is, ok)
				}
			}
		}
	}
}

// TestVectorsUseNoSpareBases takes Hs that has further bases behind its length.
func TestVectorsUseNoSpareBases(t *testing.T) {
	b := impl.Bases{H: 3, Hs: []int{4, 9, 2}[:1]}
	got, ok := impl.CommitVector(exampleGroup, b, []int{1, 2}, 0)
	checkNoInt(t, "CommitVector with a base behind Hs", got, ok)
	got, ok = impl.CommitVector(exampleGroup, b, []int{1}, 0)
	checkInt(t, "CommitVector with one base", 4, got, ok)
}
