package tests

import (
	"fmt"
	"slices"
	"testing"

	"loop.example/g00878/impl"
)

// Promise 7 for changed proofs: the verifying functions report exactly the proofs for which the equations of the document hold.

// haveForm reports whether a proof has the given numbers of elements and of exponents.
func haveForm(gr impl.Group, p impl.Proof, commits int, challenges int, responses int) bool {
	for _, x := range p.Commits {
		if x < 1 || x >= gr.P || wantPower(x, gr.Q, gr.P) != 1 {
			return false
		}
	}
	for _, e := range slices.Concat(p.Challenges, p.Responses) {
		if e < 0 || e >= gr.Q {
			return false
		}
	}
	return len(p.Commits) == commits && len(p.Challenges) == challenges && len(p.Responses) == responses
}

// isLinearProof reports whether a proof of a linear statement is right.
func isLinearProof(gr impl.Group, label string, bases [][]int, images []int, p impl.Proof) bool {
	if !haveForm(gr, p, len(bases), 1, len(bases[0])) {
		return false
	}
	e := p.Challenges[0]
	for i, row := range bases {
		if wantProduct(gr, row, p.Responses) != wantProduct(gr, []int{p.Commits[i], images[i]}, []int{1, e}) {
			return false
		}
	}
	return e == wantChallenge(gr, label, slices.Concat(slices.Concat(bases...), images, p.Commits)...)
}

// fulfilsOneOf reports whether a proof of one of several statements has the right form and fulfils the equations of each statement, for challenges of any sum.
func fulfilsOneOf(gr impl.Group, l []impl.EqualLog, p impl.Proof) bool {
	if !haveForm(gr, p, 2*len(l), len(l), len(l)) {
		return false
	}
	for i, s := range l {
		a, b, c, z := p.Commits[2*i], p.Commits[2*i+1], p.Challenges[i], p.Responses[i]
		if wantPower(s.G1, z, gr.P) != wantProduct(gr, []int{a, s.Y1}, []int{1, c}) || wantPower(s.G2, z, gr.P) != wantProduct(gr, []int{b, s.Y2}, []int{1, c}) {
			return false
		}
	}
	return true
}

// isOneOfProof reports whether a proof of one of several statements is right.
func isOneOfProof(gr impl.Group, label string, l []impl.EqualLog, p impl.Proof) bool {
	if !fulfilsOneOf(gr, l, p) {
		return false
	}
	sum := 0
	for _, c := range p.Challenges {
		sum += c
	}
	return sum%gr.Q == wantChallenge(gr, label, append(componentsOf(l), p.Commits...)...)
}

// proven is a statement with an accepted proof: the call that verifies a proof of it, the reference for this call, and, for each response, whether it belongs to bases that are all 1, so that any other one is as good.
type proven struct {
	name   string
	gr     impl.Group
	p      impl.Proof
	free   []bool
	verify func(p impl.Proof) (bool, bool)
	want   func(p impl.Proof) bool
}

// provenLinear returns a linear statement with its proof.
func provenLinear(gr impl.Group, label string, bases [][]int, secrets []int, coins []int) proven {
	images := wantImages(gr, bases, secrets)
	free := make([]bool, len(secrets))
	for k := range free {
		free[k] = !slices.ContainsFunc(bases, func(row []int) bool { return row[k] != 1 })
	}
	return proven{
		name:   fmt.Sprintf("VerifyLinear(%v, %q, %v, %v)", gr, label, bases, images),
		gr:     gr,
		p:      wantLinear(gr, label, bases, secrets, coins),
		free:   free,
		verify: func(p impl.Proof) (bool, bool) { return impl.VerifyLinear(gr, label, bases, images, p) },
		want:   func(p impl.Proof) bool { return isLinearProof(gr, label, bases, images, p) },
	}
}

// provenKnowledge returns a statement of knowledge with its proof.
func provenKnowledge(gr impl.Group, label string, base int, secret int, coin int) proven {
	s := provenLinear(gr, label, [][]int{{base}}, []int{secret}, []int{coin})
	y := wantPower(base, secret, gr.P)
	s.name = fmt.Sprintf("VerifyKnowledge(%v, %q, %d, %d)", gr, label, base, y)
	s.verify = func(p impl.Proof) (bool, bool) { return impl.VerifyKnowledge(gr, label, base, y, p) }
	return s
}

// provenEqual returns a statement of equal logarithms with its proof.
func provenEqual(gr impl.Group, label string, e impl.EqualLog, secret int, coin int) proven {
	s := provenLinear(gr, label, rowsOf(e), []int{secret}, []int{coin})
	s.name = fmt.Sprintf("VerifyEqual(%v, %q, %v)", gr, label, e)
	s.verify = func(p impl.Proof) (bool, bool) { return impl.VerifyEqual(gr, label, e, p) }
	return s
}

// provenOneOf returns several statements with a proof of one of them.
func provenOneOf(gr impl.Group, label string, l []impl.EqualLog, which int, secret int, coins []int) proven {
	free := make([]bool, len(l))
	for i, e := range l {
		free[i] = e.G1 == 1 && e.G2 == 1
	}
	return proven{
		name:   fmt.Sprintf("VerifyOneOf(%v, %q, %v)", gr, label, l),
		gr:     gr,
		p:      wantOneOf(gr, label, l, which, secret, coins),
		free:   free,
		verify: func(p impl.Proof) (bool, bool) { return impl.VerifyOneOf(gr, label, l, p) },
		want:   func(p impl.Proof) bool { return isOneOfProof(gr, label, l, p) },
	}
}

// someProven returns statements of all kinds with their proofs.
func someProven(gr impl.Group) []proven {
	elements, exps := someElements(gr), someResidues(gr.Q)[4:]
	ones, secret := impl.EqualLog{G1: 1, Y1: 1, G2: 1, Y2: 1}, exps[0]
	l := []proven{
		provenKnowledge(gr, "", gr.G, exps[0], exps[1]), provenKnowledge(gr, "k", elements[5], 0, 0), provenKnowledge(gr, "one", 1, exps[2], exps[3]),
		provenEqual(gr, "", equalOf(gr, gr.G, elements[2], exps[4]), exps[4], exps[5]), provenEqual(gr, "e", equalOf(gr, 1, gr.G, 0), 0, 1), provenEqual(gr, "one", ones, exps[6], exps[7]),
		provenOneOf(gr, "", someChoice(gr, 1, 0, secret), 0, secret, exps[:1]), provenOneOf(gr, "o", someChoice(gr, 2, 0, secret), 0, secret, exps[:3]),
		provenOneOf(gr, "o", someChoice(gr, 3, 2, secret), 2, secret, exps[:5]), provenOneOf(gr, "o", someChoice(gr, maxRows, 4, secret), 4, secret, exps[:2*maxRows-1]),
		provenOneOf(gr, "one", []impl.EqualLog{ones, exampleOf(gr), ones}, 1, 1, exps[:5]), provenOneOf(gr, "one", []impl.EqualLog{exampleOf(gr), ones}, 1, 1, repeated(0, 3)),
	}
	for i, bases := range someMatrices(gr) {
		n := len(bases[0])
		l = append(l, provenLinear(gr, someLabels[i], bases, exps[:n], exps[n:2*n]))
	}
	return l
}

// exampleOf returns the statement of equal logarithms that is true for 1 and two bases that are not 1.
func exampleOf(gr impl.Group) impl.EqualLog {
	return equalOf(gr, gr.G, wantPower(gr.G, gr.Q-1, gr.P), 1)
}

// checkWrong fails unless a proof is refused, with true.
func (s proven) checkWrong(t *testing.T, change string, p impl.Proof) {
	t.Helper()
	got, ok := s.verify(p)
	checkVerdict(t, fmt.Sprintf("%s of %v with %s, %v", s.name, s.p, change, p), false, got, ok)
}

// checkAny fails unless a proof is accepted exactly if the equations hold.
func (s proven) checkAny(t *testing.T, change string, p impl.Proof) {
	t.Helper()
	got, ok := s.verify(p)
	checkVerdict(t, fmt.Sprintf("%s of %v with %s, %v", s.name, s.p, change, p), s.want(p), got, ok)
}

// replaced returns a copy of a list with another element at an index.
func replaced(l []int, i int, x int) []int {
	copied := slices.Clone(l)
	copied[i] = x
	return copied
}

// inserted returns a copy of a list with one more element at an index.
func inserted(l []int, i int, x int) []int {
	return slices.Insert(slices.Clone(l), i, x)
}

// removed returns a copy of a list without the element at an index.
func removed(l []int, i int) []int {
	return slices.Delete(slices.Clone(l), i, i+1)
}

// TestProvenIsAccepted shows that the changed proofs are refused for the changes alone.
func TestProvenIsAccepted(t *testing.T) {
	for _, gr := range allGroups() {
		for _, s := range someProven(gr) {
			got, ok := s.verify(s.p)
			checkVerdict(t, fmt.Sprint(s.name, " of ", s.p), true, got, ok)
			checkVerdict(t, fmt.Sprint("the reference of ", s.name, " of ", s.p), true, s.want(s.p), true)
		}
	}
}

// checkReplaced replaces each element of a list of the proof by others, all of which must be refused.
func (s proven) checkReplaced(t *testing.T, change string, list int, others func(x int) []int) {
	t.Helper()
	right := *listsOfProof(&s.p)[list]
	for i, x := range right {
		for _, other := range others(x) {
			p := s.p
			*listsOfProof(&p)[list] = replaced(right, i, other)
			if other != x {
				s.checkWrong(t, change, p)
			}
		}
	}
}

// checkCommits takes other commits.
func (s proven) checkCommits(t *testing.T) {
	t.Helper()
	s.checkReplaced(t, "another commit", 0, func(x int) []int {
		return slices.Concat(someElements(s.gr)[:8], notElements(s.gr), []int{x + s.gr.P, x - s.gr.P, s.gr.P - x, -x})
	})
}

func TestChangedCommits(t *testing.T) {
	for _, gr := range allGroups() {
		for _, s := range someProven(gr) {
			s.checkCommits(t)
		}
	}
}

// checkChallenges takes other challenges.
func (s proven) checkChallenges(t *testing.T) {
	t.Helper()
	s.checkReplaced(t, "another challenge", 1, func(c int) []int {
		return slices.Concat(someExponents(s.gr), notExponents(s.gr), []int{c + s.gr.Q, c - s.gr.Q, (c + 1) % s.gr.Q, -c})
	})
}

func TestChangedChallenges(t *testing.T) {
	for _, gr := range allGroups() {
		for _, s := range someProven(gr) {
			s.checkChallenges(t)
		}
	}
}

// checkResponses takes other responses.
func (s proven) checkResponses(t *testing.T) {
	t.Helper()
	q := s.gr.Q
	for i, z := range s.p.Responses {
		p := s.p
		for _, other := range slices.Concat(someExponents(s.gr), []int{(z + 1) % q, (z + q - 1) % q}) {
			p.Responses = replaced(s.p.Responses, i, other)
			s.checkAny(t, "another response", p)
			if other != z && !s.free[i] {
				s.checkWrong(t, "another response", p)
			}
		}
	}
	s.checkReplaced(t, "no exponent as a response", 2, func(z int) []int { return append(notExponents(s.gr), z+q, z-q) })
}

func TestChangedResponses(t *testing.T) {
	for _, gr := range allGroups() {
		for _, s := range someProven(gr) {
			s.checkResponses(t)
		}
	}
}

// listsOfProof returns the addresses of the lists of a proof.
func listsOfProof(p *impl.Proof) []*[]int {
	return []*[]int{&p.Commits, &p.Challenges, &p.Responses}
}

// checkLengths takes one element too many or too few in each list, at each place, and lists that are empty or far too long. A missing element stands behind the list where it is cut off.
func (s proven) checkLengths(t *testing.T) {
	t.Helper()
	for k := range 3 {
		p := s.p
		list := listsOfProof(&p)[k]
		right := *list
		for i := range right {
			*list = removed(right, i)
			s.checkWrong(t, "one element too few", p)
		}
		for i := range len(right) + 1 {
			for _, x := range []int{0, 1, right[len(right)-1]} {
				*list = inserted(right, i, x)
				s.checkWrong(t, "one element too many", p)
			}
		}
		for _, other := range [][]int{nil, right[:len(right)-1], append(slices.Clone(right), right...), append(slices.Clone(right), repeated(1, maxList)...), repeated(1, maxList+1), repeated(1, 1000)} {
			*list = other
			s.checkWrong(t, "a list of another length", p)
		}
	}
	s.checkWrong(t, "no elements", impl.Proof{})
}

func TestProofsOfOtherLengths(t *testing.T) {
	for _, gr := range allGroups() {
		for _, s := range someProven(gr) {
			s.checkLengths(t)
		}
	}
}

// checkExchanged takes the right elements in wrong lists or in another order.
func (s proven) checkExchanged(t *testing.T) {
	t.Helper()
	a, b, c := s.p.Commits, s.p.Challenges, s.p.Responses
	for _, p := range []impl.Proof{{Commits: a, Challenges: c, Responses: b}, {Commits: b, Challenges: a, Responses: c}, {Commits: c, Challenges: b, Responses: a}, {Commits: b, Challenges: c, Responses: a}, {Commits: c, Challenges: a, Responses: b}} {
		s.checkAny(t, "lists exchanged", p)
	}
	for k := range 3 {
		p := s.p
		list := listsOfProof(&p)[k]
		right := *list
		*list = slices.Clone(right)
		slices.Reverse(*list)
		s.checkAny(t, "a list reversed", p)
		*list = append(slices.Clone(right[1:]), right[0])
		s.checkAny(t, "a list shifted", p)
	}
}

func TestProofsWithListsExchanged(t *testing.T) {
	for _, gr := range allGroups() {
		for _, s := range someProven(gr) {
			s.checkExchanged(t)
		}
	}
}

// TestOneOfWithSameSum changes two challenges so that their sum stays the right one.
func TestOneOfWithSameSum(t *testing.T) {
	for _, gr := range allGroups() {
		for _, s := range someProven(gr) {
			n := len(s.p.Challenges)
			for i := range n {
				for _, d := range []int{1, gr.Q / 2, gr.Q - 1} {
					p := s.p
					p.Challenges = replaced(p.Challenges, i, (p.Challenges[i]+d)%gr.Q)
					p.Challenges = replaced(p.Challenges, (i+1)%n, (p.Challenges[(i+1)%n]+gr.Q-d)%gr.Q)
					s.checkAny(t, "the same sum of challenges", p)
				}
			}
		}
	}
}

// TestSimulatedProofs takes proofs for which the equations hold, but whose challenges were chosen before the Commits. They are accepted only if the challenge happens to be the chosen one.
func TestSimulatedProofs(t *testing.T) {
	for _, gr := range allGroups() {
		accepted := 0
		for i, c := range someResidues(gr.Q) {
			z := (7*i + 3) % gr.Q
			e := falseEqualOf(gr)
			p := impl.Proof{Commits: []int{wantChosen(gr, e.G1, e.Y1, c, z), wantChosen(gr, e.G2, e.Y2, c, z)}, Challenges: []int{c}, Responses: []int{z}}
			got, ok := impl.VerifyEqual(gr, "lie", e, p)
			checkVerdict(t, fmt.Sprintf("VerifyEqual(%v, %v, %v)", gr, e, p), isLinearProof(gr, "lie", rowsOf(e), []int{e.Y1, e.Y2}, p), got, ok)
			got, ok = impl.VerifyOneOf(gr, "lie", []impl.EqualLog{e}, p)
			checkVerdict(t, fmt.Sprintf("VerifyOneOf(%v, %v, %v)", gr, e, p), isOneOfProof(gr, "lie", []impl.EqualLog{e}, p), got, ok)
			if got {
				accepted++
			}
		}
		if gr.Q > 1000000 && accepted > 0 {
			t.Errorf("%d simulated proofs in %v are accepted", accepted, gr)
		}
	}
}

// falseEqualOf returns a statement of equal logarithms that is true for no exponent.
func falseEqualOf(gr impl.Group) impl.EqualLog {
	return impl.EqualLog{G1: gr.G, Y1: gr.G, G2: gr.G, Y2: 1}
}

// TestProofsOfOtherStatements verifies a proof for a changed statement, with another label and in another group.
func TestProofsOfOtherStatements(t *testing.T) {
	for _, gr := range allGroups() {
		elements := someElements(gr)
		bases, secrets := matrixOf(elements, 1, 2, 3), someResidues(gr.Q)[5:8]
		images := wantImages(gr, bases, secrets)
		p := wantLinear(gr, "right", bases, secrets, firstOf(gr.Q, 3))
		check := func(gr impl.Group, label string, bases [][]int, images []int) {
			t.Helper()
			got, ok := impl.VerifyLinear(gr, label, bases, images, p)
			checkVerdict(t, fmt.Sprintf("VerifyLinear(%v, %q, %v, %v, %v)", gr, label, bases, images, p), isLinearProof(gr, label, bases, images, p), got, ok)
		}
		for _, label := range someLabels {
			check(gr, label, bases, images)
		}
		check(impl.Group{P: gr.P, Q: gr.Q, G: wantPower(gr.G, gr.Q-1, gr.P)}, "right", bases, images)
		for i, x := range elements {
			check(gr, "right", bases, replaced(images, i%2, x))
			check(gr, "right", [][]int{bases[0], replaced(bases[1], i%3, x)}, images)
			check(gr, "right", [][]int{replaced(bases[0], i%3, x), bases[1]}, images)
		}
		check(gr, "right", [][]int{bases[1], bases[0]}, images)
		check(gr, "right", [][]int{bases[1], bases[0]}, []int{images[1], images[0]})
		check(gr, "right", [][]int{bases[0]}, images[:1])
		check(gr, "right", [][]int{bases[0], bases[1], bases[1]}, append(slices.Clone(images), images[1]))
		check(gr, "right", [][]int{bases[0][:2], bases[1][:2]}, images)
	}
}

// TestOneOfProofsOfOtherStatements does the same for the proofs of one of several statements.
func TestOneOfProofsOfOtherStatements(t *testing.T) {
	for _, gr := range allGroups() {
		elements := someElements(gr)
		l := someChoice(gr, 3, 1, 1)
		p := wantOneOf(gr, "right", l, 1, 1, firstOf(gr.Q, 5))
		check := func(gr impl.Group, label string, l []impl.EqualLog) {
			t.Helper()
			got, ok := impl.VerifyOneOf(gr, label, l, p)
			checkVerdict(t, fmt.Sprintf("VerifyOneOf(%v, %q, %v, %v)", gr, label, l, p), isOneOfProof(gr, label, l, p), got, ok)
		}
		for _, label := range someLabels {
			check(gr, label, l)
		}
		check(impl.Group{P: gr.P, Q: gr.Q, G: wantPower(gr.G, gr.Q-1, gr.P)}, "right", l)
		for i, x := range elements {
			other := slices.Clone(l)
			e := &other[i%3]
			*[]*int{&e.G1, &e.Y1, &e.G2, &e.Y2}[i/3%4] = x
			check(gr, "right", other)
		}
		check(gr, "right", []impl.EqualLog{l[1], l[0], l[2]})
		check(gr, "right", []impl.EqualLog{l[2], l[1], l[0]})
		check(gr, "right", l[:2])
		check(gr, "right", append(slices.Clone(l), l[2]))
	}
}

// allProofs returns all proofs with the given numbers of elements as Commits, of exponents as Challenges and as Responses, in a small group.
func allProofs(gr impl.Group, commits int, challenges int, responses int) []impl.Proof {
	elements := elementsIn(gr)
	var proofs []impl.Proof
	for _, l := range listsIn(gr.Q, commits+challenges+responses) {
		p := impl.Proof{Challenges: l[commits : commits+challenges], Responses: l[commits+challenges:]}
		for _, k := range l[:commits] {
			p.Commits = append(p.Commits, elements[k])
		}
		proofs = append(proofs, p)
	}
	return proofs
}

// TestAllProofsOfSmallGroups verifies all proofs of the right form for all statements of knowledge in groups of at most 5 elements.
func TestAllProofsOfSmallGroups(t *testing.T) {
	for _, gr := range smallGroups() {
		if gr.Q > 5 {
			continue
		}
		proofs := allProofs(gr, 1, 1, 1)
		for _, base := range elementsIn(gr) {
			for _, y := range elementsIn(gr) {
				for _, p := range proofs {
					got, ok := impl.VerifyKnowledge(gr, "all", base, y, p)
					checkVerdict(t, fmt.Sprintf("VerifyKnowledge(%v, %d, %d, %v)", gr, base, y, p), isLinearProof(gr, "all", [][]int{{base}}, []int{y}, p), got, ok)
				}
			}
		}
	}
}

// TestAllEqualProofsOfSmallGroups verifies all proofs of the right form for all statements of equal logarithms in groups of 2 or 3 elements, also as proofs of one of one statement.
func TestAllEqualProofsOfSmallGroups(t *testing.T) {
	for _, gr := range []impl.Group{{P: 3, Q: 2, G: 2}, {P: 23, Q: 2, G: 22}, {P: 7, Q: 3, G: 2}} {
		elements, proofs := elementsIn(gr), allProofs(gr, 2, 1, 1)
		for _, l := range listsIn(gr.Q, 4) {
			e := impl.EqualLog{G1: elements[l[0]], Y1: elements[l[1]], G2: elements[l[2]], Y2: elements[l[3]]}
			for _, p := range proofs {
				got, ok := impl.VerifyEqual(gr, "all", e, p)
				checkVerdict(t, fmt.Sprintf("VerifyEqual(%v, %v, %v)", gr, e, p), isLinearProof(gr, "all", rowsOf(e), []int{e.Y1, e.Y2}, p), got, ok)
				got, ok = impl.VerifyOneOf(gr, "all", []impl.EqualLog{e}, p)
				checkVerdict(t, fmt.Sprintf("VerifyOneOf(%v, %v, %v)", gr, e, p), isOneOfProof(gr, "all", []impl.EqualLog{e}, p), got, ok)
			}
		}
	}
}

// TestAllOneOfProofsOfLeastGroup verifies all proofs of the right form for all pairs of statements with the least generator as G1 and G2, in the group of two elements.
func TestAllOneOfProofsOfLeastGroup(t *testing.T) {
	gr := impl.Group{P: 3, Q: 2, G: 2}
	proofs := allProofs(gr, 4, 2, 2)
	for _, l := range listsIn(2, 4) {
		pair := []impl.EqualLog{{G1: 2, Y1: 1 + l[0], G2: 2, Y2: 1 + l[1]}, {G1: 2, Y1: 1 + l[2], G2: 2, Y2: 1 + l[3]}}
		for _, p := range proofs {
			got, ok := impl.VerifyOneOf(gr, "all", pair, p)
			checkVerdict(t, fmt.Sprintf("VerifyOneOf(%v, %v, %v)", gr, pair, p), isOneOfProof(gr, "all", pair, p), got, ok)
		}
	}
}
