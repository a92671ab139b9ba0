package tests

import (
	"fmt"
	"slices"
	"testing"

	"loop.example/g00878/impl"
)

// Promise 8 for two proofs of one of several statements. The expected statement and exponent follow the document's description by big integers.

// wantExtracted returns the statement and the exponent that two proofs determine, and whether they do.
func wantExtracted(gr impl.Group, l []impl.EqualLog, p impl.Proof, r impl.Proof) (int, int, bool) {
	if !fulfilsOneOf(gr, l, p) || !fulfilsOneOf(gr, l, r) || !slices.Equal(p.Commits, r.Commits) {
		return 0, 0, false
	}
	for i := range l {
		if x, ok := wantQuotient(gr, p.Challenges[i], p.Responses[i], r.Challenges[i], r.Responses[i]); ok {
			return i, x, true
		}
	}
	return 0, 0, false
}

// checkFoundExponent fails unless the given statement and exponent are extracted from two proofs, in both orders, and the exponent makes the statement true.
func checkFoundExponent(t *testing.T, gr impl.Group, l []impl.EqualLog, p impl.Proof, r impl.Proof, which int, want int) {
	t.Helper()
	for range 2 {
		i, x, ok := impl.ExtractOneOf(gr, l, p, r)
		if !ok || i != which || x != want {
			t.Errorf("ExtractOneOf(%v, %v, %v, %v) = %d, %d, %v; want %d, %d, true", gr, l, p, r, i, x, ok, which, want)
		}
		if ok && l[i] != equalOf(gr, l[i].G1, l[i].G2, x) {
			t.Errorf("ExtractOneOf(%v, %v, %v, %v) = %d, %d, which does not make the statement true", gr, l, p, r, i, x)
		}
		p, r = r, p
	}
}

// checkNotFound fails unless nothing is extracted from two proofs.
func checkNotFound(t *testing.T, gr impl.Group, l []impl.EqualLog, p impl.Proof, r impl.Proof) {
	t.Helper()
	for range 2 {
		if i, x, ok := impl.ExtractOneOf(gr, l, p, r); i != 0 || x != 0 || ok {
			t.Errorf("ExtractOneOf(%v, %v, %v, %v) = %d, %d, %v; want 0, 0, false", gr, l, p, r, i, x, ok)
		}
		p, r = r, p
	}
}

// checkAsWanted compares what is extracted with the reference.
func checkAsWanted(t *testing.T, gr impl.Group, l []impl.EqualLog, p impl.Proof, r impl.Proof) {
	t.Helper()
	if i, x, ok := wantExtracted(gr, l, p, r); ok {
		checkFoundExponent(t, gr, l, p, r, i, x)
	} else {
		checkNotFound(t, gr, l, p, r)
	}
}

func TestExtractOneOfExamples(t *testing.T) {
	single := []impl.EqualLog{{G1: 2, Y1: 8, G2: 2, Y2: 8}}
	pair := []impl.EqualLog{falseEqual, exampleEqual}
	twice := []impl.EqualLog{exampleEqual, {G1: 4, Y1: 9, G2: 2, Y2: 3}}
	for _, c := range []struct {
		l         []impl.EqualLog
		p, r      impl.Proof
		which, to int
	}{
		{single, proofOf([]int{9, 9}, []int{4}, []int{6}), proofOf([]int{9, 9}, []int{1}, []int{8}), 0, 3},
		{single, proofOf([]int{1, 1}, []int{0}, []int{0}), proofOf([]int{1, 1}, []int{1}, []int{3}), 0, 3},
		{pair, proofOf([]int{9, 3, 8, 4}, []int{1, 10}, []int{2, 0}), proofOf([]int{9, 3, 8, 4}, []int{1, 0}, []int{2, 3}), 1, 3},
		{twice, proofOf([]int{2, 3, 4, 2}, []int{1, 2}, []int{4, 6}), proofOf([]int{2, 3, 4, 2}, []int{1, 5}, []int{4, 8}), 1, 8},
		{twice, proofOf([]int{2, 3, 4, 2}, []int{1, 2}, []int{4, 6}), proofOf([]int{2, 3, 4, 2}, []int{0, 5}, []int{1, 8}), 0, 3},
		{twice, proofOf([]int{2, 3, 4, 2}, []int{1, 2}, []int{4, 6}), proofOf([]int{2, 3, 4, 2}, []int{0, 2}, []int{1, 6}), 0, 3},
	} {
		checkFoundExponent(t, exampleGroup, c.l, c.p, c.r, c.which, c.to)
	}
	p := proofOf([]int{9, 9}, []int{4}, []int{6})
	checkNotFound(t, exampleGroup, single, p, p)
	checkNotFound(t, exampleGroup, single, p, proofOf([]int{1, 1}, []int{1}, []int{3}))
	checkNotFound(t, exampleGroup, single, p, proofOf([]int{9, 9}, []int{1}, []int{9}))
	checkNotFound(t, exampleGroup, single, p, impl.Proof{})
}

// answers are two proofs with the same Commits for statements, and the secrets for which these are true, or -1 where the statement is false and the challenges are the same.
type answers struct {
	gr      impl.Group
	l       []impl.EqualLog
	secrets []int
	p       impl.Proof
	r       impl.Proof
}

// noSecret stands in the place of the secret of a false statement.
const noSecret = -1

// answersOf returns proofs with the given Challenges. The coin is the common response where the statement is false.
func answersOf(gr impl.Group, l []impl.EqualLog, secrets []int, coins []int, first []int, second []int) answers {
	a := answers{gr: gr, l: l, secrets: secrets, p: impl.Proof{Challenges: slices.Clone(first)}, r: impl.Proof{Challenges: slices.Clone(second)}}
	for i, e := range l {
		commits := wantImages(gr, rowsOf(e), coins[i:i+1])
		z, other := coins[i], coins[i]
		if secrets[i] == noSecret {
			a.r.Challenges[i] = first[i]
			commits = []int{wantChosen(gr, e.G1, e.Y1, first[i], z), wantChosen(gr, e.G2, e.Y2, first[i], z)}
		} else {
			z, other = wantResponse(gr, coins[i], first[i], secrets[i]), wantResponse(gr, coins[i], second[i], secrets[i])
		}
		a.p.Commits, a.r.Commits = append(a.p.Commits, commits...), append(a.r.Commits, commits...)
		a.p.Responses, a.r.Responses = append(a.p.Responses, z), append(a.r.Responses, other)
	}
	return a
}

// check fails unless the secret of the first statement with different challenges is extracted, or nothing if there is none.
func (a answers) check(t *testing.T) {
	t.Helper()
	for i := range a.l {
		if a.p.Challenges[i] != a.r.Challenges[i] {
			checkFoundExponent(t, a.gr, a.l, a.p, a.r, i, a.secrets[i])
			return
		}
	}
	checkNotFound(t, a.gr, a.l, a.p, a.r)
}

// mixedStatements returns n statements with their secrets, of which the ones at the given indices are false. The bases of some true ones are 1.
func mixedStatements(gr impl.Group, n int, wrong ...int) ([]impl.EqualLog, []int) {
	elements, exps := someElements(gr), someResidues(gr.Q)
	var l []impl.EqualLog
	var secrets []int
	for i := range n {
		e, secret := equalOf(gr, elements[i], elements[3*i+1], exps[i+n]), exps[i+n]
		if slices.Contains(wrong, i) {
			e, secret = falseEqualOf(gr), noSecret
		}
		l, secrets = append(l, e), append(secrets, secret)
	}
	return l, secrets
}

// someAnswers returns proofs whose Challenges differ for the first statement, for a later one, for several, for all and for none, and of which some statements are false.
func someAnswers(gr impl.Group) []answers {
	exps := someResidues(gr.Q)
	var all []answers
	for n := 1; n <= maxRows; n++ {
		first := exps[n : 2*n]
		for from := range n + 1 {
			second, later := slices.Clone(first), slices.Clone(first)
			for i := from; i < n; i++ {
				later[i] = (first[i] + 1 + i%(gr.Q-1)) % gr.Q
			}
			if from < n {
				second[from] = (first[from] + gr.Q - 1) % gr.Q
			}
			l, secrets := mixedStatements(gr, n)
			all = append(all, answersOf(gr, l, secrets, exps[3:3+n], first, second), answersOf(gr, l, secrets, exps[3:3+n], first, later))
			l, secrets = mixedStatements(gr, n, 0, n/2)
			all = append(all, answersOf(gr, l, secrets, exps[3:3+n], first, later))
			l, secrets = mixedStatements(gr, n, n-1)
			all = append(all, answersOf(gr, l, secrets, exps[3:3+n], first, second))
		}
	}
	return all
}

func TestExtractOneOfOfAllGroups(t *testing.T) {
	for _, gr := range allGroups() {
		for _, a := range someAnswers(gr) {
			a.check(t)
			checkAsWanted(t, a.gr, a.l, a.p, a.r)
		}
	}
}

// TestExtractOneOfOfAllChallenges takes all pairs of lists of Challenges for three statements.
func TestExtractOneOfOfAllChallenges(t *testing.T) {
	for _, gr := range []impl.Group{{P: 3, Q: 2, G: 2}, {P: 7, Q: 3, G: 2}, {P: 1999999873, Q: 3, G: wantPower(5, 1999999872/3, 1999999873)}} {
		for _, wrong := range [][]int{nil, {0}, {1}, {0, 1}, {2}} {
			l, secrets := mixedStatements(gr, 3, wrong...)
			for _, c := range listsIn(gr.Q, 6) {
				answersOf(gr, l, secrets, []int{0, 1, gr.Q - 1}, c[:3], c[3:]).check(t)
			}
		}
	}
}

// TestExtractOneOfOfOneStatement takes, for groups with at most 5 elements, all true statements, coins and Challenges.
func TestExtractOneOfOfOneStatement(t *testing.T) {
	for _, gr := range []impl.Group{{P: 3, Q: 2, G: 2}, {P: 7, Q: 3, G: 2}, {P: 11, Q: 5, G: 3}} {
		elements := elementsIn(gr)
		for _, l := range listsIn(gr.Q, 6) {
			e := equalOf(gr, elements[l[0]], elements[l[1]], l[2])
			answersOf(gr, []impl.EqualLog{e}, l[2:3], l[3:4], l[4:5], l[5:6]).check(t)
		}
	}
}

// TestExtractOneOfOfAllPairs takes all pairs of proofs of the right form, accepted or not, for all statements in the group of two elements, and for one generator in one of three.
func TestExtractOneOfOfAllPairs(t *testing.T) {
	for _, gr := range []impl.Group{{P: 3, Q: 2, G: 2}, {P: 7, Q: 3, G: 2}} {
		elements, proofs := elementsIn(gr), allProofs(gr, 2, 1, 1)
		for _, k := range listsIn(gr.Q, 4) {
			if gr.Q > 2 && (k[0] != 1 || k[2] == 0) {
				continue
			}
			l := []impl.EqualLog{{G1: elements[k[0]], Y1: elements[k[1]], G2: elements[k[2]], Y2: elements[k[3]]}}
			checkAllPairs(t, gr, l, proofs)
		}
	}
}

// TestExtractOneOfOfTwoStatements takes all pairs of proofs of the right form with the same Commits for all pairs of statements with the generator as G1 and G2, in the group of two elements.
func TestExtractOneOfOfTwoStatements(t *testing.T) {
	gr := impl.Group{P: 3, Q: 2, G: 2}
	proofs := map[string][]impl.Proof{}
	for _, p := range allProofs(gr, 4, 2, 2) {
		key := fmt.Sprint(p.Commits)
		proofs[key] = append(proofs[key], p)
	}
	for _, k := range listsIn(2, 4) {
		l := []impl.EqualLog{{G1: 2, Y1: 1 + k[0], G2: 2, Y2: 1 + k[1]}, {G1: 2, Y1: 1 + k[2], G2: 2, Y2: 1 + k[3]}}
		for _, same := range proofs {
			checkAllPairs(t, gr, l, same)
		}
	}
}

// checkAllPairs compares what is extracted from all pairs of proofs with the reference.
func checkAllPairs(t *testing.T, gr impl.Group, l []impl.EqualLog, proofs []impl.Proof) {
	t.Helper()
	right := make([]bool, len(proofs))
	for i, p := range proofs {
		right[i] = fulfilsOneOf(gr, l, p)
	}
	for i, p := range proofs {
		for k, r := range proofs {
			want, x, is := 0, 0, false
			if right[i] && right[k] {
				want, x, is = wantExtracted(gr, l, p, r)
			}
			if got, found, ok := impl.ExtractOneOf(gr, l, p, r); got != want || found != x || ok != is {
				t.Errorf("ExtractOneOf(%v, %v, %v, %v) = %d, %d, %v; want %d, %d, %v", gr, l, p, r, got, found, ok, want, x, is)
			}
		}
	}
}

// TestExtractOneOfOfTwoLabels takes the accepted proofs that a prover makes with the same coins for two labels.
func TestExtractOneOfOfTwoLabels(t *testing.T) {
	for _, gr := range allGroups() {
		for n := 1; n <= maxRows; n++ {
			for which := range n {
				secret, coins := someResidues(gr.Q)[which+5], someResidues(gr.Q)[n:3*n-1]
				l := someChoice(gr, n, which, secret)
				p, ok := impl.ProveOneOf(gr, "first", l, which, secret, coins)
				r, is := impl.ProveOneOf(gr, "second", l, which, secret, coins)
				if !ok || !is {
					t.Errorf("there are no proofs of %v in %v", l, gr)
				}
				if p.Challenges[which] == r.Challenges[which] {
					checkNotFound(t, gr, l, p, r)
				} else {
					checkFoundExponent(t, gr, l, p, r, which, secret)
				}
			}
		}
	}
}

// changedProofs returns the proofs that a proof becomes by one other element, in each list at each place.
func changedProofs(gr impl.Group, p impl.Proof) []impl.Proof {
	elements := append(someElements(gr)[:5], gr.P, 0, -1)
	exps := append([]int{0, 1, gr.Q - 1}, someResidues(gr.Q)[5], gr.Q, -1)
	var changed []impl.Proof
	for k, others := range [][]int{elements, exps, exps} {
		for i := range *listsOfProof(&p)[k] {
			for _, x := range others {
				q := p
				*listsOfProof(&q)[k] = replaced(*listsOfProof(&p)[k], i, x)
				changed = append(changed, q)
			}
		}
	}
	return changed
}

// TestExtractOneOfOfChangedProofs changes one element of one of the proofs, or the same commit of both, so that an equation fails also for a statement behind the first one with different challenges.
func TestExtractOneOfOfChangedProofs(t *testing.T) {
	for _, gr := range sigmaGroups {
		for i, a := range someAnswers(gr) {
			// The proofs for many statements take long.
			if len(a.l) > 3 && i%7 > 0 {
				continue
			}
			for _, p := range changedProofs(gr, a.p) {
				checkAsWanted(t, gr, a.l, p, a.r)
				r := a.r
				r.Commits = p.Commits
				checkAsWanted(t, gr, a.l, p, r)
			}
		}
	}
}

// TestExtractOneOfOfOtherStatements takes proofs for other statements, in another order, for fewer and for more.
func TestExtractOneOfOfOtherStatements(t *testing.T) {
	for _, gr := range allGroups() {
		for _, a := range someAnswers(gr) {
			n := len(a.l)
			if n > 3 {
				continue
			}
			checkAsWanted(t, gr, append(slices.Clone(a.l[1:]), a.l[0]), a.p, a.r)
			checkNotFound(t, gr, a.l[:n-1], a.p, a.r)
			checkNotFound(t, gr, append(slices.Clone(a.l), a.l[0]), a.p, a.r)
			for i := range n {
				for place := range 4 {
					other := slices.Clone(a.l)
					e := &other[i]
					*[]*int{&e.G1, &e.Y1, &e.G2, &e.Y2}[place] = someElements(gr)[i+place]
					checkAsWanted(t, gr, other, a.p, a.r)
				}
			}
		}
	}
}
