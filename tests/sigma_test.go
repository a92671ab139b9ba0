package tests

import (
	"fmt"
	"slices"
	"testing"

	"loop.example/g00878/impl"
)

// Promise 7: proofs are accepted, changed responses are refused, and proofs of one of several statements exist for true ones.
// This file covers the proofs of linear statements, of knowledge and of equal logarithms. The expected proofs are products of powers by big integers, with challenges from the literal list of what is hashed, and in part come from a calculation outside this program.

const maxRows = impl.MaxRows

// exampleEqual is true for exampleSecret in exampleGroup, and falseEqual for no exponent.
var (
	exampleEqual = impl.EqualLog{G1: 2, Y1: 8, G2: 3, Y2: 4}
	falseEqual   = impl.EqualLog{G1: 2, Y1: 3, G2: 3, Y2: 3}
)

// sigmaGroups have the orders 2, 3, 5, 7 and 11, and great orders.
var sigmaGroups = append([]impl.Group{{P: 11, Q: 5, G: 3}, {P: 29, Q: 7, G: 16}, {P: 3, Q: 2, G: 2}}, hashGroups...)

// wantImages returns the images of rows of bases.
func wantImages(gr impl.Group, bases [][]int, exps []int) []int {
	images := make([]int, len(bases))
	for i, row := range bases {
		images[i] = wantProduct(gr, row, exps)
	}
	return images
}

// wantChallenge returns the challenge for a list.
func wantChallenge(gr impl.Group, label string, l ...int) int {
	return wantHash(labelled(label, inGroup(gr, l...)...)) % gr.Q
}

// wantResponse returns the response to a challenge.
func wantResponse(gr impl.Group, coin int, e int, secret int) int {
	return wantDot([]int{1, e}, []int{coin, secret}, gr.Q)
}

// wantLinear returns the proof of a linear statement.
func wantLinear(gr impl.Group, label string, bases [][]int, secrets []int, coins []int) impl.Proof {
	commits := wantImages(gr, bases, coins)
	e := wantChallenge(gr, label, slices.Concat(slices.Concat(bases...), wantImages(gr, bases, secrets), commits)...)
	responses := make([]int, len(coins))
	for i, coin := range coins {
		responses[i] = wantResponse(gr, coin, e, secrets[i])
	}
	return impl.Proof{Commits: commits, Challenges: []int{e}, Responses: responses}
}

// rowsOf returns the bases of a statement of equal logarithms.
func rowsOf(e impl.EqualLog) [][]int {
	return [][]int{{e.G1}, {e.G2}}
}

// equalOf returns the statement of equal logarithms to two bases that is true for a secret.
func equalOf(gr impl.Group, g1 int, g2 int, secret int) impl.EqualLog {
	return impl.EqualLog{G1: g1, Y1: wantPower(g1, secret, gr.P), G2: g2, Y2: wantPower(g2, secret, gr.P)}
}

// matrixOf returns rows of as many bases each, the elements of a list from an index on.
func matrixOf(elements []int, from int, rows int, columns int) [][]int {
	bases := make([][]int, rows)
	for i := range bases {
		for range columns {
			bases[i] = append(bases[i], elements[from%len(elements)])
			from++
		}
	}
	return bases
}

// someMatrices returns bases of linear statements with one row, one column, the greatest number of them, and numbers between; some bases are 1 or the same.
func someMatrices(gr impl.Group) [][][]int {
	some, ones := someElements(gr), []int{1}
	matrices := [][][]int{matrixOf(ones, 0, 1, 1), matrixOf(ones, 0, maxRows, maxRows), matrixOf([]int{gr.G}, 0, 3, 3), matrixOf([]int{1, gr.G}, 0, 2, 2), matrixOf([]int{gr.G, gr.G, 1}, 0, 2, 3)}
	for i, size := range [][]int{{1, 1}, {2, 1}, {1, 2}, {2, 3}, {3, 2}, {1, maxRows}, {maxRows, 1}, {maxRows - 1, maxRows}, {maxRows, maxRows}} {
		matrices = append(matrices, matrixOf(some, 1+6*i, size[0], size[1]))
	}
	return matrices
}

// checkProof fails unless a call returned the wanted proof and true.
func checkProof(t *testing.T, name string, want impl.Proof, got impl.Proof, ok bool) {
	t.Helper()
	if !ok || !slices.Equal(got.Commits, want.Commits) || !slices.Equal(got.Challenges, want.Challenges) || !slices.Equal(got.Responses, want.Responses) {
		t.Errorf("%s = %v, %v; want %v, true", name, got, ok, want)
	}
}

// checkVerdict fails unless a call reported what is wanted, and true.
func checkVerdict(t *testing.T, name string, want bool, got bool, ok bool) {
	t.Helper()
	if !ok || got != want {
		t.Errorf("%s = %v, %v; want %v, true", name, got, ok, want)
	}
}

func TestSigmaConstants(t *testing.T) {
	if maxRows != 8 {
		t.Error("MaxRows is", maxRows)
	}
}

func TestImagesOfExamples(t *testing.T) {
	for _, c := range []struct {
		bases   [][]int
		secrets []int
		want    []int
	}{
		{[][]int{{2, 3}, {3, 4}}, []int{1, 2}, []int{18, 2}},
		{[][]int{{2, 3, 4}}, []int{1, 2, 3}, []int{2}},
		{[][]int{{2}, {3}, {4}}, []int{5}, []int{9, 13, 12}},
		{[][]int{{2}}, []int{0}, []int{1}}, {[][]int{{2}}, []int{3}, []int{8}}, {[][]int{{1}}, []int{10}, []int{1}}, {[][]int{{2, 2}}, []int{1, 10}, []int{1}},
	} {
		got, ok := impl.ImagesOf(exampleGroup, c.bases, c.secrets)
		checkList(t, fmt.Sprintf("ImagesOf(%v, %v)", c.bases, c.secrets), c.want, got, ok)
	}
}

func TestProveKnowledgeExamples(t *testing.T) {
	for _, c := range []struct {
		gr                 impl.Group
		label              string
		base, secret, coin int
		want               impl.Proof
	}{
		{exampleGroup, "a", 2, 3, 5, proofOf([]int{9}, []int{6}, []int{1})},
		{exampleGroup, "", 2, 3, 5, proofOf([]int{9}, []int{7}, []int{4})},
		{exampleGroup, "a", 2, 0, 0, proofOf([]int{1}, []int{2}, []int{0})},
		{exampleGroup, "a", 1, 3, 5, proofOf([]int{1}, []int{6}, []int{1})},
		{exampleGroup, "a", 3, 10, 10, proofOf([]int{8}, []int{5}, []int{5})},
		{impl.Group{P: 3, Q: 2, G: 2}, "", 2, 1, 1, proofOf([]int{2}, []int{0}, []int{1})},
		{impl.Group{P: 3, Q: 2, G: 2}, "", 2, 1, 0, proofOf([]int{1}, []int{1}, []int{1})},
	} {
		got, ok := impl.ProveKnowledge(c.gr, c.label, c.base, c.secret, c.coin)
		checkProof(t, fmt.Sprintf("ProveKnowledge(%v, %q, %d, %d, %d)", c.gr, c.label, c.base, c.secret, c.coin), c.want, got, ok)
	}
}

func TestProveLinearExamples(t *testing.T) {
	for _, c := range []struct {
		gr             impl.Group
		label          string
		bases          [][]int
		secrets, coins []int
		want           impl.Proof
	}{
		{exampleGroup, "", [][]int{{2, 3}, {3, 4}}, []int{1, 2}, []int{7, 8}, proofOf([]int{9, 18}, []int{7}, []int{3, 0})},
		{exampleGroup, "rows", [][]int{{2, 3, 4}}, []int{1, 2, 3}, []int{4, 5, 6}, proofOf([]int{2}, []int{7}, []int{0, 8, 5})},
		{exampleGroup, "rows", [][]int{{2}, {3}, {4}}, []int{5}, []int{6}, proofOf([]int{18, 16, 2}, []int{2}, []int{5})},
		{topGroup, "top", [][]int{{4, 16}, {64, 256}}, []int{999999190, 2}, []int{500000000, 999999189}, proofOf([]int{1700297099, 1883116310}, []int{158473685}, []int{341526315, 316947368})},
	} {
		got, ok := impl.ProveLinear(c.gr, c.label, c.bases, c.secrets, c.coins)
		checkProof(t, fmt.Sprintf("ProveLinear(%v, %q, %v, %v, %v)", c.gr, c.label, c.bases, c.secrets, c.coins), c.want, got, ok)
	}
}

func TestProveEqualExample(t *testing.T) {
	got, ok := impl.ProveEqual(exampleGroup, "x", exampleEqual, exampleSecret, 4)
	checkProof(t, "ProveEqual", proofOf([]int{16, 12}, []int{2}, []int{10}), got, ok)
	accepted, ok := impl.VerifyEqual(exampleGroup, "x", exampleEqual, got)
	checkVerdict(t, "VerifyEqual", true, accepted, ok)
}

// checkLinear compares the images and the proof of a linear statement with the expected ones and verifies the proof.
func checkLinear(t *testing.T, gr impl.Group, label string, bases [][]int, secrets []int, coins []int) {
	t.Helper()
	name := fmt.Sprintf("in %v with the label %q and the bases %v: ", gr, label, bases)
	images, ok := impl.ImagesOf(gr, bases, secrets)
	checkList(t, fmt.Sprint(name, "ImagesOf ", secrets), wantImages(gr, bases, secrets), images, ok)
	p, ok := impl.ProveLinear(gr, label, bases, secrets, coins)
	checkProof(t, fmt.Sprint(name, "ProveLinear of ", secrets, coins), wantLinear(gr, label, bases, secrets, coins), p, ok)
	accepted, ok := impl.VerifyLinear(gr, label, bases, images, p)
	checkVerdict(t, fmt.Sprint(name, "VerifyLinear of ", images, p), true, accepted, ok)
}

func TestLinearOfAllGroups(t *testing.T) {
	for i, gr := range allGroups() {
		for k, bases := range someMatrices(gr) {
			label := someLabels[(i+k)%len(someLabels)]
			lists := exponentLists(gr, len(bases[0]))
			for m, secrets := range lists {
				checkLinear(t, gr, label, bases, secrets, lists[m])
				checkLinear(t, gr, label, bases, secrets, lists[(m+2)%len(lists)])
			}
		}
	}
}

// TestLinearOfAllSizes takes each number of rows with each number of columns.
func TestLinearOfAllSizes(t *testing.T) {
	for _, gr := range []impl.Group{exampleGroup, topGroup, {P: 3, Q: 2, G: 2}} {
		for rows := 1; rows <= maxRows; rows++ {
			for columns := 1; columns <= maxRows; columns++ {
				exps := someResidues(gr.Q)
				checkLinear(t, gr, "sizes", matrixOf(someElements(gr), rows+columns, rows, columns), exps[rows:rows+columns], exps[columns:2*columns])
			}
		}
	}
}

func TestLinearOfAllLabels(t *testing.T) {
	for _, gr := range sigmaGroups {
		for _, label := range someLabels {
			checkLinear(t, gr, label, matrixOf(someElements(gr), 1, 2, 3), firstOf(gr.Q, 3), someResidues(gr.Q)[5:8])
		}
	}
}

// TestLinearOfSmallGroups takes all matrices of two rows and two columns, all secrets and all coins of groups with 2 or 3 elements.
func TestLinearOfSmallGroups(t *testing.T) {
	for _, gr := range []impl.Group{{P: 3, Q: 2, G: 2}, {P: 7, Q: 3, G: 2}} {
		elements := elementsIn(gr)
		for _, l := range listsIn(gr.Q, 8) {
			bases := [][]int{{elements[l[0]], elements[l[1]]}, {elements[l[2]], elements[l[3]]}}
			checkLinear(t, gr, "all", bases, l[4:6], l[6:])
		}
	}
}

// listsIn returns all lists of n integers in 0..limit-1.
func listsIn(limit int, n int) [][]int {
	all := smallLists(limit, n)
	return slices.DeleteFunc(all, func(l []int) bool { return len(l) < n })
}

// checkKnowledge compares a proof of knowledge with the expected one, which is that of a linear statement, and verifies it.
func checkKnowledge(t *testing.T, gr impl.Group, label string, base int, secret int, coin int) {
	t.Helper()
	name := fmt.Sprintf("Knowledge(%v, %q, %d, %d, %d)", gr, label, base, secret, coin)
	p, ok := impl.ProveKnowledge(gr, label, base, secret, coin)
	checkProof(t, "Prove"+name, wantLinear(gr, label, [][]int{{base}}, []int{secret}, []int{coin}), p, ok)
	y := wantPower(base, secret, gr.P)
	accepted, ok := impl.VerifyKnowledge(gr, label, base, y, p)
	checkVerdict(t, "Verify"+name, true, accepted, ok)
	same, ok := impl.VerifyLinear(gr, label, [][]int{{base}}, []int{y}, p)
	checkVerdict(t, "VerifyLinear for "+name, true, same, ok)
}

// TestKnowledgeOfSmallGroups takes all bases, secrets and coins of groups with at most 7 elements.
func TestKnowledgeOfSmallGroups(t *testing.T) {
	for _, gr := range smallGroups() {
		if gr.Q > 7 {
			continue
		}
		for _, base := range elementsIn(gr) {
			for _, l := range listsIn(gr.Q, 2) {
				checkKnowledge(t, gr, "know", base, l[0], l[1])
			}
		}
	}
}

func TestKnowledgeOfAllGroups(t *testing.T) {
	for i, gr := range allGroups() {
		for k, base := range someElements(gr)[:7] {
			for _, secret := range someExponents(gr) {
				for _, coin := range someExponents(gr)[:5] {
					checkKnowledge(t, gr, someLabels[(i+k)%len(someLabels)], base, secret, coin)
				}
			}
		}
	}
}

func TestIsTrueEqualExamples(t *testing.T) {
	for secret := range exampleGroup.Q {
		got, ok := impl.IsTrueEqual(exampleGroup, exampleEqual, secret)
		checkVerdict(t, fmt.Sprintf("IsTrueEqual(%v, %d)", exampleEqual, secret), secret == exampleSecret, got, ok)
		got, ok = impl.IsTrueEqual(exampleGroup, falseEqual, secret)
		checkVerdict(t, fmt.Sprintf("IsTrueEqual(%v, %d)", falseEqual, secret), false, got, ok)
		got, ok = impl.IsTrueEqual(exampleGroup, impl.EqualLog{G1: 1, Y1: 1, G2: 1, Y2: 1}, secret)
		checkVerdict(t, fmt.Sprintf("IsTrueEqual of ones, %d", secret), true, got, ok)
		got, ok = impl.IsTrueEqual(exampleGroup, impl.EqualLog{G1: 1, Y1: 2, G2: 1, Y2: 1}, secret)
		checkVerdict(t, fmt.Sprintf("IsTrueEqual of another image of 1, %d", secret), false, got, ok)
		got, ok = impl.IsTrueEqual(exampleGroup, impl.EqualLog{G1: 1, Y1: 1, G2: 2, Y2: 8}, secret)
		checkVerdict(t, fmt.Sprintf("IsTrueEqual with the base 1, %d", secret), secret == exampleSecret, got, ok)
	}
}

// checkEqual checks whether a statement is true for a secret, and that there is a proof exactly if it is, which is accepted.
func checkEqual(t *testing.T, gr impl.Group, label string, e impl.EqualLog, secret int, coin int) {
	t.Helper()
	name := fmt.Sprintf("Equal(%v, %q, %v, %d, %d)", gr, label, e, secret, coin)
	is := e == equalOf(gr, e.G1, e.G2, secret)
	got, ok := impl.IsTrueEqual(gr, e, secret)
	checkVerdict(t, "IsTrue"+name, is, got, ok)
	p, ok := impl.ProveEqual(gr, label, e, secret, coin)
	if !is {
		checkNone(t, "Prove"+name, p, ok)
		return
	}
	checkProof(t, "Prove"+name, wantLinear(gr, label, rowsOf(e), []int{secret}, []int{coin}), p, ok)
	accepted, ok := impl.VerifyEqual(gr, label, e, p)
	checkVerdict(t, "Verify"+name, true, accepted, ok)
	same, ok := impl.VerifyLinear(gr, label, rowsOf(e), []int{e.Y1, e.Y2}, p)
	checkVerdict(t, "VerifyLinear for "+name, true, same, ok)
}

// TestEqualOfSmallGroups takes all statements and secrets of groups with at most 5 elements.
func TestEqualOfSmallGroups(t *testing.T) {
	for _, gr := range smallGroups() {
		if gr.Q > 5 {
			continue
		}
		elements := elementsIn(gr)
		for i, l := range listsIn(gr.Q, 4) {
			e := impl.EqualLog{G1: elements[l[0]], Y1: elements[l[1]], G2: elements[l[2]], Y2: elements[l[3]]}
			for secret := range gr.Q {
				checkEqual(t, gr, "equal", e, secret, (i+secret)%gr.Q)
			}
		}
	}
}

func TestEqualOfAllGroups(t *testing.T) {
	for i, gr := range allGroups() {
		elements := someElements(gr)
		label := someLabels[i%len(someLabels)]
		for k, secret := range someExponents(gr) {
			for m, coin := range someExponents(gr) {
				e := equalOf(gr, elements[k], elements[m], secret)
				checkEqual(t, gr, label, e, secret, coin)
				checkEqual(t, gr, label, e, (secret+1)%gr.Q, coin)
				other := e
				other.Y2 = wantProduct(gr, []int{e.Y2, gr.G}, []int{1, 1})
				checkEqual(t, gr, label, other, secret, coin)
				other = e
				other.Y1 = wantProduct(gr, []int{e.Y1, gr.G}, []int{1, 1})
				checkEqual(t, gr, label, other, secret, coin)
			}
		}
	}
}
