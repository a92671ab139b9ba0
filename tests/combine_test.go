package tests

import (
	"fmt"
	"testing"

	"loop.example/g00878/impl"
)

// Promise 9 for combined commitments, which commit to sums, and for the trapdoor, which opens to any value.

func TestCombineCommitsExamples(t *testing.T) {
	for _, c := range []struct {
		l, exps []int
		want    int
	}{
		{[]int{6}, []int{1}, 6}, {[]int{6}, []int{0}, 1}, {[]int{6}, []int{2}, 13}, {[]int{1}, []int{10}, 1}, {[]int{6, 4}, []int{1, 1}, 1}, {[]int{6, 4}, []int{10, 1}, 16},
		{[]int{2, 3, 4}, []int{1, 2, 3}, 2}, {repeated(2, maxList), repeated(1, maxList), 4}, {repeated(2, maxList), repeated(10, maxList), 6},
	} {
		got, ok := impl.CombineCommits(exampleGroup, c.l, c.exps)
		checkInt(t, fmt.Sprintf("CombineCommits(%v, %v)", c.l, c.exps), c.want, got, ok)
	}
}

func TestCombineCommitsOfLists(t *testing.T) {
	for _, gr := range allGroups() {
		for _, l := range elementLists(gr) {
			for _, exps := range exponentLists(gr, len(l)) {
				name := fmt.Sprintf("CombineCommits(%v, %v, %v)", gr, l, exps)
				got, ok := impl.CombineCommits(gr, l, exps)
				if len(l) == 0 {
					checkNoInt(t, name, got, ok)
				} else {
					checkInt(t, name, wantProduct(gr, l, exps), got, ok)
				}
			}
		}
	}
}

// TestCombineCommitsOfDifferentLengths takes one exponent too many or too few, and none.
func TestCombineCommitsOfDifferentLengths(t *testing.T) {
	for _, gr := range allGroups() {
		for _, l := range elementLists(gr) {
			for _, n := range []int{0, len(l) - 1, len(l) + 1, 2 * len(l), maxList, maxList + 1} {
				if n < 0 || n == len(l) {
					continue
				}
				got, ok := impl.CombineCommits(gr, l, repeated(1, n))
				checkNoInt(t, fmt.Sprintf("CombineCommits(%v, %v) of %d exponents", gr, l, n), got, ok)
			}
		}
		got, ok := impl.CombineCommits(gr, repeated(1, maxList+1), repeated(0, maxList+1))
		checkNoInt(t, fmt.Sprintf("CombineCommits(%v) of too many elements", gr), got, ok)
	}
}

// checkCombined combines the commitments to integers and fails unless the result is the commitment to the sum of their multiples.
func checkCombined(t *testing.T, gr impl.Group, b impl.Bases, ms []int, rs []int, exps []int) {
	t.Helper()
	l := make([]int, len(ms))
	for i, m := range ms {
		l[i], _ = impl.Commit(gr, b, m, rs[i])
	}
	name := fmt.Sprintf("in %v with the bases %v, the combination with %v of the commitments to %v and %v", gr, b, exps, ms, rs)
	c, ok := impl.CombineCommits(gr, l, exps)
	m, r := wantDot(ms, exps, gr.Q), wantDot(rs, exps, gr.Q)
	want, fine := impl.Commit(gr, b, m, r)
	checkInt(t, name, want, c, ok && fine)
	is, ok := impl.CheckOpening(gr, b, c, m, r)
	checkVerdict(t, name+" opened to the sum", true, is, ok)
}

func TestCommitmentsMultiplyToSums(t *testing.T) {
	for _, gr := range allGroups() {
		for _, b := range someBases(gr) {
			for _, n := range []int{1, 2, 5, maxList} {
				ms, rs := someResidues(gr.Q)[3:3+n], someResidues(gr.Q)[9:9+n]
				for _, exps := range exponentLists(gr, n) {
					checkCombined(t, gr, b, ms, rs, exps)
					checkCombined(t, gr, b, repeated(gr.Q-1, n), rs, exps)
				}
			}
		}
	}
}

// TestSumsOfSmallGroups takes all pairs of commitments with all exponents in groups of 2 and 3 elements.
func TestSumsOfSmallGroups(t *testing.T) {
	for _, gr := range []impl.Group{{P: 3, Q: 2, G: 2}, {P: 7, Q: 3, G: 2}} {
		for _, h := range elementsIn(gr)[1:] {
			for _, l := range listsIn(gr.Q, 6) {
				checkCombined(t, gr, impl.Bases{H: h}, l[:2], l[2:4], l[4:])
			}
		}
	}
}

// TestVectorsMultiplyToSums takes commitments to lists, which are combined like those to integers.
func TestVectorsMultiplyToSums(t *testing.T) {
	for _, gr := range allGroups() {
		for _, b := range someBases(gr) {
			n, some := len(b.Hs), someResidues(gr.Q)
			first, second := some[4:4+n], some[10:10+n]
			for _, exps := range exponentLists(gr, 2) {
				c, _ := impl.CommitVector(gr, b, first, some[1])
				d, _ := impl.CommitVector(gr, b, second, some[5])
				sums := make([]int, n)
				for i := range sums {
					sums[i] = wantDot([]int{first[i], second[i]}, exps, gr.Q)
				}
				got, ok := impl.CombineCommits(gr, []int{c, d}, exps)
				want, fine := impl.CommitVector(gr, b, sums, wantDot([]int{some[1], some[5]}, exps, gr.Q))
				checkInt(t, fmt.Sprintf("in %v with the bases %v, the combination of vectors with %v", gr, b, exps), want, got, ok && fine)
			}
		}
	}
}

func TestEquivocateExamples(t *testing.T) {
	for _, c := range []struct {
		gr                   impl.Group
		t, m, r, other, want int
	}{
		{exampleGroup, 8, 2, 5, 2, 5}, {exampleGroup, 8, 2, 5, 3, 9}, {exampleGroup, 8, 2, 5, 0, 8}, {exampleGroup, 1, 2, 5, 3, 4}, {exampleGroup, 10, 0, 10, 10, 9}, {exampleGroup, 3, 10, 0, 0, 7},
		{impl.Group{P: 3, Q: 2, G: 2}, 1, 0, 0, 1, 1}, {impl.Group{P: 3, Q: 2, G: 2}, 1, 1, 1, 0, 0}, {impl.Group{P: 3, Q: 2, G: 2}, 1, 1, 0, 1, 0},
		{topGroup, 999999190, 1, 2, 999999189, 999999190}, {topGroup, 123456789, 987654321, 5, 6, 547067954},
	} {
		got, ok := impl.Equivocate(c.gr, c.t, c.m, c.r, c.other)
		checkInt(t, fmt.Sprintf("Equivocate(%v, %d, %d, %d, %d)", c.gr, c.t, c.m, c.r, c.other), c.want, got, ok)
	}
}

// checkEquivocated opens the commitment to m to another integer and returns the r' for it.
func checkEquivocated(t *testing.T, gr impl.Group, trapdoor int, m int, r int, other int) int {
	t.Helper()
	name := fmt.Sprintf("Equivocate(%v, %d, %d, %d, %d)", gr, trapdoor, m, r, other)
	inverse, _ := wantInverse(trapdoor, gr.Q)
	want := wantDot([]int{1, m, gr.Q - other}, []int{r, inverse, inverse}, gr.Q)
	got, ok := impl.Equivocate(gr, trapdoor, m, r, other)
	checkInt(t, name, want, got, ok)
	if other == m && got != r {
		t.Errorf("%s = %d for the same integer", name, got)
	}
	b := impl.Bases{H: wantPower(gr.G, trapdoor, gr.P)}
	if b.H == 1 {
		t.Fatalf("%s with a trapdoor of 0", name)
	}
	c, ok := impl.Commit(gr, b, m, r)
	is, fine := impl.CheckOpening(gr, b, c, other, got)
	checkVerdict(t, name+" opens the commitment", true, is, ok && fine)
	return got
}

// TestEquivocateOfSmallGroups takes all arguments of groups with at most 7 elements, and all r', of which only one opens the commitment.
func TestEquivocateOfSmallGroups(t *testing.T) {
	for _, gr := range smallGroups() {
		if gr.Q > 7 {
			continue
		}
		for _, l := range listsIn(gr.Q, 4) {
			if l[0] == 0 {
				continue
			}
			found := checkEquivocated(t, gr, l[0], l[1], l[2], l[3])
			h := wantPower(gr.G, l[0], gr.P)
			for r := range gr.Q {
				if opens := wantCommit(gr, h, l[3], r) == wantCommit(gr, h, l[1], l[2]); opens != (r == found) {
					t.Errorf("Equivocate(%v, %v) = %d; %d opens: %v", gr, l, found, r, opens)
				}
			}
		}
	}
}

func TestEquivocateOfAllGroups(t *testing.T) {
	for _, gr := range allGroups() {
		for _, trapdoor := range someResidues(gr.Q)[:12] {
			if trapdoor == 0 {
				continue
			}
			for _, m := range someExponents(gr) {
				for _, r := range someExponents(gr) {
					for _, other := range []int{0, 1, gr.Q - 1, m, (m + 1) % gr.Q} {
						checkEquivocated(t, gr, trapdoor, m, r, other)
					}
				}
			}
		}
	}
}

// TestEquivocateWithoutTrapdoor takes a trapdoor of 0, for which H is 1, and others that are no exponents; the residue of some of them would be a trapdoor.
func TestEquivocateWithoutTrapdoor(t *testing.T) {
	for _, gr := range allGroups() {
		for _, trapdoor := range append(notExponents(gr), 0, 1-gr.Q) {
			for _, m := range []int{0, 1} {
				got, ok := impl.Equivocate(gr, trapdoor, m, 1, 0)
				checkNoInt(t, fmt.Sprintf("Equivocate(%v, %d, %d, 1, 0)", gr, trapdoor, m), got, ok)
			}
		}
	}
}
