package tests

import (
	"fmt"
	"slices"
	"testing"

	"loop.example/g00878/impl"
)

// Promise 9 for proofs of openings: they are accepted, and exactly the proofs for which the equation of the document holds are.

// openingChallenge returns the challenge for a commitment and a commit, from the literal list of what is hashed.
func openingChallenge(gr impl.Group, h int, c int, x int) int {
	return wantChallenge(gr, "opening", h, c, x)
}

// wantOpening returns the proof of an opening with two coins.
func wantOpening(gr impl.Group, h int, m int, r int, coins []int) impl.Proof {
	x := wantCommit(gr, h, coins[0], coins[1])
	e := openingChallenge(gr, h, wantCommit(gr, h, m, r), x)
	return impl.Proof{Commits: []int{x}, Challenges: []int{e}, Responses: []int{wantResponse(gr, coins[0], e, m), wantResponse(gr, coins[1], e, r)}}
}

// isOpeningProof reports whether a proof of an opening is right.
func isOpeningProof(gr impl.Group, h int, c int, p impl.Proof) bool {
	if !haveForm(gr, p, 1, 1, 2) {
		return false
	}
	x, e := p.Commits[0], p.Challenges[0]
	return wantCommit(gr, h, p.Responses[0], p.Responses[1]) == wantProduct(gr, []int{x, c}, []int{1, e}) && e == openingChallenge(gr, h, c, x)
}

// provenOpening returns the statement that the prover knows the opening of a commitment, with its proof.
func provenOpening(gr impl.Group, b impl.Bases, m int, r int, coins []int) proven {
	c := wantCommit(gr, b.H, m, r)
	return proven{
		name:   fmt.Sprintf("VerifyOpening(%v, %v, %d)", gr, b, c),
		gr:     gr,
		p:      wantOpening(gr, b.H, m, r, coins),
		free:   []bool{false, false},
		verify: func(p impl.Proof) (bool, bool) { return impl.VerifyOpening(gr, b, c, p) },
		want:   func(p impl.Proof) bool { return isOpeningProof(gr, b.H, c, p) },
	}
}

// someOpenings returns statements about openings with their proofs.
func someOpenings(gr impl.Group) []proven {
	var l []proven
	for i, b := range someBases(gr) {
		exps := someResidues(gr.Q)[3*i:]
		l = append(l, provenOpening(gr, b, exps[0], exps[1], exps[2:4]), provenOpening(gr, b, 0, 0, exps[2:4]), provenOpening(gr, b, gr.Q-1, 1, []int{0, 0}))
	}
	return l
}

func TestProveOpeningExamples(t *testing.T) {
	for _, c := range []struct {
		gr    impl.Group
		b     impl.Bases
		m, r  int
		coins []int
		want  impl.Proof
	}{
		{exampleGroup, exampleBases, 2, 5, []int{1, 7}, proofOf([]int{4}, []int{4}, []int{9, 5})},
		{exampleGroup, impl.Bases{H: 3}, 2, 5, []int{1, 7}, proofOf([]int{4}, []int{4}, []int{9, 5})},
		{exampleGroup, exampleBases, 0, 0, []int{0, 0}, proofOf([]int{1}, []int{2}, []int{0, 0})},
		{exampleGroup, exampleBases, 10, 10, []int{10, 10}, proofOf([]int{4}, []int{10}, []int{0, 0})},
		{exampleGroup, impl.Bases{H: 2}, 3, 4, []int{5, 6}, proofOf([]int{1}, []int{10}, []int{2, 2})},
		{impl.Group{P: 3, Q: 2, G: 2}, impl.Bases{H: 2}, 1, 0, []int{1, 1}, proofOf([]int{1}, []int{0}, []int{1, 1})},
		{impl.Group{P: 3, Q: 2, G: 2}, impl.Bases{H: 2}, 1, 1, []int{0, 1}, proofOf([]int{2}, []int{0}, []int{0, 1})},
		{impl.Group{P: 3, Q: 2, G: 2}, impl.Bases{H: 2}, 0, 0, []int{0, 0}, proofOf([]int{1}, []int{1}, []int{0, 0})},
		{topGroup, impl.Bases{H: 1919288576}, 999999190, 500000000, []int{123456789, 999999189}, proofOf([]int{789562130}, []int{136259811}, []int{987196169, 617137638})},
	} {
		got, ok := impl.ProveOpening(c.gr, c.b, c.m, c.r, c.coins)
		checkProof(t, fmt.Sprintf("ProveOpening(%v, %v, %d, %d, %v)", c.gr, c.b, c.m, c.r, c.coins), c.want, got, ok)
	}
}

// checkProvenOpening compares the proof of an opening with the expected one and verifies it.
func checkProvenOpening(t *testing.T, gr impl.Group, b impl.Bases, m int, r int, coins []int) {
	t.Helper()
	name := fmt.Sprintf("ProveOpening(%v, %v, %d, %d, %v)", gr, b, m, r, coins)
	p, ok := impl.ProveOpening(gr, b, m, r, coins)
	checkProof(t, name, wantOpening(gr, b.H, m, r, coins), p, ok)
	accepted, ok := impl.VerifyOpening(gr, b, wantCommit(gr, b.H, m, r), p)
	checkVerdict(t, fmt.Sprint("VerifyOpening of ", name), true, accepted, ok)
}

// TestOpeningsOfSmallGroups takes all bases H, all m and r and all coins of groups with at most 5 elements.
func TestOpeningsOfSmallGroups(t *testing.T) {
	for _, gr := range smallGroups() {
		if gr.Q > 5 {
			continue
		}
		for _, h := range elementsIn(gr)[1:] {
			for _, l := range listsIn(gr.Q, 4) {
				checkProvenOpening(t, gr, impl.Bases{H: h}, l[0], l[1], l[2:])
			}
		}
	}
}

func TestOpeningsOfAllGroups(t *testing.T) {
	for _, gr := range allGroups() {
		for _, b := range someBases(gr) {
			for _, m := range someExponents(gr) {
				for i, r := range someExponents(gr) {
					checkProvenOpening(t, gr, b, m, r, someResidues(gr.Q)[i:i+2])
				}
			}
		}
	}
}

// TestOpeningProofsAreAccepted shows that the changed proofs are refused for the changes alone.
func TestOpeningProofsAreAccepted(t *testing.T) {
	for _, gr := range allGroups() {
		for _, s := range someOpenings(gr) {
			got, ok := s.verify(s.p)
			checkVerdict(t, fmt.Sprint(s.name, " of ", s.p), true, got, ok)
			checkVerdict(t, fmt.Sprint("the reference of ", s.name, " of ", s.p), true, s.want(s.p), true)
		}
	}
}

// TestChangedOpeningProofs takes other commits, challenges, responses, lengths and orders.
func TestChangedOpeningProofs(t *testing.T) {
	for _, gr := range allGroups() {
		for _, s := range someOpenings(gr) {
			s.checkCommits(t)
			s.checkChallenges(t)
			s.checkResponses(t)
			s.checkLengths(t)
			s.checkExchanged(t)
		}
	}
}

// TestAllOpeningProofsOfSmallGroups verifies all proofs of the right form for all bases H and all elements of groups with 2 or 3 elements.
func TestAllOpeningProofsOfSmallGroups(t *testing.T) {
	for _, gr := range smallGroups() {
		if gr.Q > 3 {
			continue
		}
		proofs, accepted := allProofs(gr, 1, 1, 2), 0
		for _, h := range elementsIn(gr)[1:] {
			for _, c := range elementsIn(gr) {
				for _, p := range proofs {
					want := isOpeningProof(gr, h, c, p)
					got, ok := impl.VerifyOpening(gr, impl.Bases{H: h}, c, p)
					checkVerdict(t, fmt.Sprintf("VerifyOpening(%v, %d, %d, %v)", gr, h, c, p), want, got, ok)
					if got {
						accepted++
					}
				}
			}
		}
		// There is one challenge for each commit, and with it Q pairs of responses.
		if want := (gr.Q - 1) * gr.Q * gr.Q * gr.Q; accepted != want {
			t.Errorf("%d proofs in %v are accepted; want %d", accepted, gr, want)
		}
	}
}

// TestOpeningProofsOfOtherCommitments takes other elements, bases H and generators with the same proof.
func TestOpeningProofsOfOtherCommitments(t *testing.T) {
	for _, gr := range allGroups() {
		for i, b := range someBases(gr) {
			exps := someResidues(gr.Q)[2*i:]
			p, c := wantOpening(gr, b.H, exps[0], exps[1], exps[2:4]), wantCommit(gr, b.H, exps[0], exps[1])
			name := fmt.Sprintf("of the proof %v for %d with the bases %v in %v", p, c, b, gr)
			for _, x := range append(someElements(gr)[:20], c*gr.G%gr.P, c*b.H%gr.P) {
				got, ok := impl.VerifyOpening(gr, b, x, p)
				checkVerdict(t, fmt.Sprint("VerifyOpening for ", x, name), isOpeningProof(gr, b.H, x, p), got, ok)
			}
			for _, h := range basesIn(gr)[:20] {
				got, ok := impl.VerifyOpening(gr, impl.Bases{H: h}, c, p)
				checkVerdict(t, fmt.Sprint("VerifyOpening with the base ", h, name), isOpeningProof(gr, h, c, p), got, ok)
			}
			for _, g := range basesIn(gr)[:20] {
				other := impl.Group{P: gr.P, Q: gr.Q, G: g}
				got, ok := impl.VerifyOpening(other, b, c, p)
				checkVerdict(t, fmt.Sprint("VerifyOpening with the generator ", g, name), isOpeningProof(other, b.H, c, p), got, ok)
			}
		}
	}
}

// TestOpeningProofsIgnoreHs verifies a proof with other Hs than those it was made with.
func TestOpeningProofsIgnoreHs(t *testing.T) {
	for _, gr := range allGroups() {
		for _, b := range someBases(gr) {
			p, _ := impl.ProveOpening(gr, impl.Bases{H: gr.G}, 1, 0, []int{1, 1})
			got, ok := impl.VerifyOpening(gr, impl.Bases{H: gr.G, Hs: b.Hs}, gr.G, p)
			checkVerdict(t, fmt.Sprintf("VerifyOpening in %v with the bases %v", gr, b.Hs), true, got, ok)
		}
	}
}

// TestOpeningProofsOfOtherChallenges takes proofs that fulfil the equation for a challenge of another list or label, or for one that was chosen before the commit.
func TestOpeningProofsOfOtherChallenges(t *testing.T) {
	for _, gr := range allGroups() {
		accepted := 0
		for i, b := range someBases(gr) {
			exps := someResidues(gr.Q)[4+3*i:]
			c, x := wantCommit(gr, b.H, exps[0], exps[1]), wantCommit(gr, b.H, exps[2], exps[3])
			for _, e := range []int{0, 1, exps[4], wantChallenge(gr, "opening", gr.G, b.H, c, x), wantChallenge(gr, "opening", b.H, c), wantChallenge(gr, "opening", b.H, x, c), wantChallenge(gr, "opening", c, b.H, x), wantChallenge(gr, "", b.H, c, x), wantChallenge(gr, "Opening", b.H, c, x)} {
				p := impl.Proof{Commits: []int{x}, Challenges: []int{e}, Responses: []int{wantResponse(gr, exps[2], e, exps[0]), wantResponse(gr, exps[3], e, exps[1])}}
				got, ok := impl.VerifyOpening(gr, b, c, p)
				checkVerdict(t, fmt.Sprintf("VerifyOpening(%v, %v, %d, %v)", gr, b, c, p), isOpeningProof(gr, b.H, c, p), got, ok)
				if got {
					accepted++
				}
			}
		}
		if gr.Q > 1000000 && accepted > 0 {
			t.Errorf("%d proofs in %v with other challenges are accepted", accepted, gr)
		}
	}
}

// TestLinearProofsAreNoOpeningProofs takes chapter 7's proof of the same exponents, whose challenge is made of G, too.
func TestLinearProofsAreNoOpeningProofs(t *testing.T) {
	p, ok := impl.ProveLinear(topGroup, "opening", [][]int{{topGroup.G, 16}}, []int{3, 4}, []int{5, 6})
	c := wantCommit(topGroup, 16, 3, 4)
	got, fine := impl.VerifyOpening(topGroup, impl.Bases{H: 16}, c, p)
	checkVerdict(t, "VerifyOpening of a proof of a linear statement", false, got, ok && fine)
	p, ok = impl.ProveOpening(topGroup, impl.Bases{H: 16}, 3, 4, []int{5, 6})
	got, fine = impl.VerifyLinear(topGroup, "opening", [][]int{{topGroup.G, 16}}, []int{c}, p)
	checkVerdict(t, "VerifyLinear of a proof of an opening", false, got, ok && fine)
}

// TestEquivocatedOpeningsHaveProofs proves the opening to another integer, with the same commitment.
func TestEquivocatedOpeningsHaveProofs(t *testing.T) {
	for _, gr := range allGroups() {
		for _, trapdoor := range slices.DeleteFunc(someResidues(gr.Q)[:8], func(e int) bool { return e == 0 }) {
			b := impl.Bases{H: wantPower(gr.G, trapdoor, gr.P)}
			for _, other := range someExponents(gr) {
				r, _ := impl.Equivocate(gr, trapdoor, 1, 1, other)
				p, fine := impl.ProveOpening(gr, b, other, r, []int{1, 0})
				got, ok := impl.VerifyOpening(gr, b, wantCommit(gr, b.H, 1, 1), p)
				checkVerdict(t, fmt.Sprintf("VerifyOpening(%v, %v) of a proof for %d and %d", gr, b, other, r), true, got, ok && fine)
			}
		}
	}
}
