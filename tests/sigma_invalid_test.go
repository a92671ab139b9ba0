package tests

import (
	"math"
	"slices"
	"testing"

	"loop.example/g00878/impl"
)

// Promise 7 for invalid arguments, for which each function returns zero values.

// sigmaArgs are arguments for all functions of chapter 7. The last four fields are proofs that the verifying functions get: of a linear statement, of knowledge, of equal logarithms and of one of several statements.
type sigmaArgs struct {
	gr      impl.Group
	label   string
	bases   [][]int
	images  []int
	secrets []int
	coins   []int
	base    int
	y       int
	secret  int
	coin    int
	e       impl.EqualLog
	l       []impl.EqualLog
	which   int
	choices []int
	linear  impl.Proof
	known   impl.Proof
	equal   impl.Proof
	oneOf   impl.Proof
}

// sigmaCalls returns all functions of chapter 7. All of them take a group.
func sigmaCalls() []tableCall[sigmaArgs] {
	return []tableCall[sigmaArgs]{
		{"ImagesOf", []string{"bases", "secrets"}, func(a sigmaArgs) outcome { return outcomeOf(impl.ImagesOf(a.gr, a.bases, a.secrets)) }},
		{"ProveLinear", []string{"label", "bases", "secrets", "coins"}, func(a sigmaArgs) outcome {
			return outcomeOf(impl.ProveLinear(a.gr, a.label, a.bases, a.secrets, a.coins))
		}},
		{"VerifyLinear", []string{"label", "bases", "images", "verify"}, func(a sigmaArgs) outcome {
			return outcomeOf(impl.VerifyLinear(a.gr, a.label, a.bases, a.images, a.linear))
		}},
		{"ProveKnowledge", []string{"label", "base", "secret", "coin"}, func(a sigmaArgs) outcome {
			return outcomeOf(impl.ProveKnowledge(a.gr, a.label, a.base, a.secret, a.coin))
		}},
		{"VerifyKnowledge", []string{"label", "base", "y", "verify"}, func(a sigmaArgs) outcome {
			return outcomeOf(impl.VerifyKnowledge(a.gr, a.label, a.base, a.y, a.known))
		}},
		{"IsTrueEqual", []string{"e", "secret"}, func(a sigmaArgs) outcome { return outcomeOf(impl.IsTrueEqual(a.gr, a.e, a.secret)) }},
		{"ProveEqual", []string{"label", "e", "secret", "coin", "true"}, func(a sigmaArgs) outcome {
			return outcomeOf(impl.ProveEqual(a.gr, a.label, a.e, a.secret, a.coin))
		}},
		{"VerifyEqual", []string{"label", "e", "verify"}, func(a sigmaArgs) outcome { return outcomeOf(impl.VerifyEqual(a.gr, a.label, a.e, a.equal)) }},
		{"ProveOneOf", []string{"label", "l", "which", "secret", "choices", "true"}, func(a sigmaArgs) outcome {
			return outcomeOf(impl.ProveOneOf(a.gr, a.label, a.l, a.which, a.secret, a.choices))
		}},
		{"VerifyOneOf", []string{"label", "l", "verify"}, func(a sigmaArgs) outcome { return outcomeOf(impl.VerifyOneOf(a.gr, a.label, a.l, a.oneOf)) }},
	}
}

// withProofs returns valid arguments with the right images and proofs.
func withProofs(a sigmaArgs) sigmaArgs {
	a.images, a.y = wantImages(a.gr, a.bases, a.secrets), wantPower(a.base, a.secret, a.gr.P)
	a.linear = wantLinear(a.gr, a.label, a.bases, a.secrets, a.coins)
	a.known = wantLinear(a.gr, a.label, [][]int{{a.base}}, []int{a.secret}, []int{a.coin})
	a.equal = wantLinear(a.gr, a.label, rowsOf(a.e), []int{a.secret}, []int{a.coin})
	a.oneOf = wantOneOf(a.gr, a.label, a.l, a.which, a.secret, a.choices)
	return a
}

// sigmaStarts returns valid arguments of a group, for which all functions succeed: ordinary ones, the least ones, which are all 1 and 0, and the longest ones.
func sigmaStarts(gr impl.Group) []sigmaArgs {
	inverse, top := wantPower(gr.G, gr.Q-1, gr.P), gr.Q-1
	ordinary := sigmaArgs{gr: gr, label: "ab", bases: [][]int{{gr.G, 1, inverse}, {1, inverse, gr.G}}, secrets: []int{1, top, 0}, coins: []int{top, 1, 1},
		base: gr.G, secret: 1, coin: top, e: exampleOf(gr), l: []impl.EqualLog{falseEqualOf(gr), exampleOf(gr), falseEqualOf(gr)}, which: 1, choices: []int{1, 0, top, 1, 1}}
	least := sigmaArgs{gr: gr, bases: [][]int{{1}}, secrets: []int{0}, coins: []int{0}, base: 1, e: onesEqual, l: []impl.EqualLog{onesEqual}, choices: []int{0}}
	longest := sigmaArgs{gr: gr, label: someLabels[len(someLabels)-1], bases: matrixOf(someElements(gr), 1, maxRows, maxRows), secrets: firstOf(gr.Q, maxRows), coins: repeated(1, maxRows),
		base: inverse, secret: 0, coin: 1, e: equalOf(gr, gr.G, gr.G, 0), l: slices.Repeat([]impl.EqualLog{equalOf(gr, gr.G, inverse, 0)}, maxRows), which: maxRows - 1, choices: firstOf(gr.Q, 2*maxRows-1)}
	return []sigmaArgs{withProofs(ordinary), withProofs(least), withProofs(longest)}
}

// onesEqual is true for every exponent.
var onesEqual = impl.EqualLog{G1: 1, Y1: 1, G2: 1, Y2: 1}

// checkBadSigma fails unless all functions that take the named argument return zero values, the verifying ones also for other proofs.
func checkBadSigma(t *testing.T, use string, a sigmaArgs) {
	t.Helper()
	checkRefused(t, sigmaCalls(), use, a)
	for _, p := range []impl.Proof{{}, {Commits: []int{0}, Challenges: []int{-1}, Responses: []int{math.MinInt}}} {
		a.linear, a.known, a.equal, a.oneOf = p, p, p, p
		checkRefused(t, sigmaCalls(), use, a)
	}
}

// allSigmaStarts returns the valid arguments of all groups.
func allSigmaStarts() []sigmaArgs {
	var starts []sigmaArgs
	for _, gr := range allGroups() {
		starts = append(starts, sigmaStarts(gr)...)
	}
	return starts
}

// TestSigmaAccepts shows that the arguments are refused for their faults alone.
func TestSigmaAccepts(t *testing.T) {
	for _, a := range allSigmaStarts() {
		for _, f := range sigmaCalls() {
			got := f.call(a)
			if !got.ok || slices.Contains(f.uses, "verify") && got.text != "true" {
				t.Errorf("%s of %+v = %v, %v", f.name, a, got.text, got.ok)
			}
		}
	}
}

func TestSigmaOfBadGroups(t *testing.T) {
	for _, gr := range badGroups {
		for _, other := range []impl.Group{exampleGroup, {P: 3, Q: 2, G: 2}} {
			for _, a := range sigmaStarts(other) {
				a.gr = gr
				checkBadSigma(t, "", a)
			}
		}
	}
}

// TestSigmaOfOtherGroups takes elements of another group with the same P, and exponents of one with a greater Q.
func TestSigmaOfOtherGroups(t *testing.T) {
	least := impl.Group{P: 23, Q: 2, G: 22}
	a := sigmaStarts(exampleGroup)[0]
	a.gr = least
	for _, use := range []string{"bases", "images", "base", "e", "l"} {
		checkBadSigma(t, use, a)
	}
	b := sigmaStarts(least)[0]
	b.secrets, b.coins, b.secret, b.coin, b.choices = []int{1, 10, 0}, []int{10, 1, 1}, 2, 10, []int{1, 0, 1, 1, 2}
	for _, use := range []string{"secrets", "coins", "secret", "coin", "choices"} {
		checkBadSigma(t, use, b)
	}
}

func TestSigmaOfLongLabels(t *testing.T) {
	for _, a := range allSigmaStarts() {
		for _, label := range longLabels {
			bad := a
			bad.label = label
			checkBadSigma(t, "label", bad)
		}
	}
}

// badMatrices returns rows that are not those of a linear statement, for valid ones: no rows, too many rows, rows without bases, with too many bases or of unequal lengths, and one base that is no element, at each place of small matrices.
func badMatrices(gr impl.Group, bases [][]int) [][][]int {
	rows, columns := len(bases), len(bases[0])
	bad := [][][]int{nil, {}, {{}}, {nil}, make([][]int, rows), make([][]int, maxRows+1), matrixOf([]int{1}, 0, maxRows+1, columns), matrixOf([]int{gr.G}, 0, 1000, columns), matrixOf([]int{1}, 0, rows, maxRows+1), matrixOf([]int{gr.G}, 0, rows, 1000), matrixOf([]int{1}, 0, maxRows+1, maxRows+1)}
	with := func(i int, row []int) [][]int {
		copied := slices.Clone(bases)
		copied[i] = row
		return copied
	}
	for i, row := range bases {
		if rows > 1 {
			bad = append(bad, with(i, row[1:]), with(i, row[:columns-1]), with(i, append(slices.Clone(row), 1)), with(i, nil))
		}
		for k := range row {
			for _, x := range notElements(gr) {
				if rows < maxRows || i == k {
					bad = append(bad, with(i, replaced(row, k, x)))
				}
			}
		}
	}
	return append(bad, append(slices.Clone(bases), nil), append(slices.Clone(bases), repeated(1, columns+1)), append([][]int{nil}, bases...))
}

func TestSigmaOfBadBases(t *testing.T) {
	for _, a := range allSigmaStarts() {
		for _, bases := range badMatrices(a.gr, a.bases) {
			bad := a
			bad.bases = bases
			checkBadSigma(t, "bases", bad)
			// As many exponents as there are bases in the first row, and as many images as there are rows.
			if len(bases) > 0 {
				n := len(bases[0])
				bad.secrets, bad.coins, bad.images = repeated(0, n), repeated(1, n), repeated(1, len(bases))
				checkBadSigma(t, "bases", bad)
			}
		}
		for _, x := range notElements(a.gr) {
			bad := a
			bad.base = x
			checkBadSigma(t, "base", bad)
			bad = a
			bad.y = x
			checkBadSigma(t, "y", bad)
		}
	}
}

// badVariants returns lists that a valid list becomes by one bad element, at each place, or by other lengths.
func badVariants(l []int, bad []int) [][]int {
	n := len(l)
	lists := [][]int{nil, l[:n-1], l[1:], append(slices.Clone(l), 1), append(slices.Clone(l), l...), repeated(1, maxList+1), repeated(1, 1000)}
	for i := range l {
		for _, x := range bad {
			lists = append(lists, replaced(l, i, x))
		}
	}
	return lists
}

func TestSigmaOfBadImages(t *testing.T) {
	for _, a := range allSigmaStarts() {
		for _, images := range badVariants(a.images, notElements(a.gr)) {
			bad := a
			bad.images = images
			checkBadSigma(t, "images", bad)
		}
	}
}

func TestSigmaOfBadExponents(t *testing.T) {
	for _, a := range allSigmaStarts() {
		for _, secrets := range badVariants(a.secrets, notExponents(a.gr)) {
			bad := a
			bad.secrets = secrets
			checkBadSigma(t, "secrets", bad)
			if len(secrets) != len(a.secrets) {
				bad.coins = secrets
				checkBadSigma(t, "secrets", bad)
			}
		}
		for _, coins := range badVariants(a.coins, notExponents(a.gr)) {
			bad := a
			bad.coins = coins
			checkBadSigma(t, "coins", bad)
		}
		for _, choices := range badVariants(a.choices, notExponents(a.gr)) {
			bad := a
			bad.choices = choices
			checkBadSigma(t, "choices", bad)
		}
		for _, x := range append(notExponents(a.gr), a.secret+a.gr.Q, a.secret-a.gr.Q) {
			bad := a
			bad.secret = x
			checkBadSigma(t, "secret", bad)
			bad = a
			bad.coin = x
			checkBadSigma(t, "coin", bad)
		}
	}
}

// badEquals returns statements that a statement becomes by one component that is no element.
func badEquals(gr impl.Group, e impl.EqualLog) []impl.EqualLog {
	var bad []impl.EqualLog
	for _, x := range notElements(gr) {
		for place := range 4 {
			other := e
			*[]*int{&other.G1, &other.Y1, &other.G2, &other.Y2}[place] = x
			bad = append(bad, other)
		}
	}
	return append(bad, impl.EqualLog{})
}

func TestSigmaOfBadStatements(t *testing.T) {
	for _, a := range allSigmaStarts() {
		for _, e := range badEquals(a.gr, a.e) {
			bad := a
			bad.e = e
			checkBadSigma(t, "e", bad)
			for i := range a.l {
				bad.l = slices.Clone(a.l)
				bad.l[i] = e
				checkBadSigma(t, "l", bad)
			}
		}
	}
}

// TestOneOfOfBadNumbers takes no statements and more than MaxRows, with as many coins as would be right.
func TestOneOfOfBadNumbers(t *testing.T) {
	for _, a := range allSigmaStarts() {
		for _, n := range []int{0, maxRows + 1, maxList, maxList + 1, 1000} {
			for _, which := range []int{0, n - 1} {
				bad := a
				bad.l, bad.which, bad.choices = slices.Repeat([]impl.EqualLog{a.l[a.which]}, n), which, repeated(1, max(0, 2*n-1))
				checkBadSigma(t, "l", bad)
			}
		}
		for _, which := range []int{math.MinInt, -len(a.l), -1, len(a.l), len(a.l) + 1, maxRows, 1 << 32, math.MaxInt} {
			bad := a
			bad.which = which
			checkBadSigma(t, "which", bad)
		}
	}
}

// TestSigmaOfFalseStatements takes statements that are not true for the secret: for another one, for one base alone, or for none. The statement is true at the other places of the list.
func TestSigmaOfFalseStatements(t *testing.T) {
	for _, gr := range allGroups() {
		other := wantPower(gr.G, 2%gr.Q, gr.P)
		for _, a := range sigmaStarts(gr) {
			for _, e := range []impl.EqualLog{{G1: gr.G, Y1: other, G2: gr.G, Y2: gr.G}, {G1: gr.G, Y1: gr.G, G2: gr.G, Y2: other}, {G1: gr.G, Y1: 1, G2: 1, Y2: gr.G}, {G1: 1, Y1: gr.G, G2: 1, Y2: 1}, equalOf(gr, gr.G, gr.G, (a.secret+1)%gr.Q), equalOf(gr, 1, gr.G, (a.secret+1)%gr.Q), falseEqualOf(gr)} {
				bad := a
				bad.e, bad.l = e, slices.Clone(a.l)
				bad.l[a.which] = e
				checkRefused(t, sigmaCalls(), "true", bad)
				got, ok := impl.IsTrueEqual(gr, e, a.secret)
				checkVerdict(t, "IsTrueEqual of a false statement", false, got, ok)
			}
		}
	}
}
