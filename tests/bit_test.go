package tests

import (
	"fmt"
	"slices"
	"testing"

	"loop.example/g00878/impl"
)

// Promise 10: proofs of bits, ranges, sums and intervals are accepted for their commitments.
// This file covers the proofs of bits. The expected proofs are products of powers by big integers, with challenges from the literal list of what is hashed; those of the examples come from a calculation outside this program.

// exampleBase is the base H of the document's examples, for exampleGroup, and topBase one for topGroup.
const (
	exampleBase = 3
	topBase     = 1919288576
)

// wantMinus returns a commitment divided by the power of G with k.
func wantMinus(gr impl.Group, c int, k int) int {
	return wantProduct(gr, []int{c, gr.G}, []int{1, gr.Q - k})
}

// bitChallenge returns the challenge for a commitment and two commits.
func bitChallenge(gr impl.Group, h int, c int, x []int) int {
	return wantChallenge(gr, "bit", h, c, x[0], x[1])
}

// wantBit returns the proof of a bit with three coins.
func wantBit(gr impl.Group, h int, m int, r int, coins []int) impl.Proof {
	c := wantCommit(gr, h, m, r)
	x, e, z := make([]int, 2), make([]int, 2), make([]int, 2)
	k := 1 - m
	e[k], z[k] = coins[1], coins[2]
	x[k] = wantProduct(gr, []int{h, wantMinus(gr, c, k)}, []int{coins[2], gr.Q - coins[1]})
	x[m] = wantPower(h, coins[0], gr.P)
	e[m] = (bitChallenge(gr, h, c, x) + gr.Q - coins[1]) % gr.Q
	z[m] = wantResponse(gr, coins[0], e[m], r)
	return impl.Proof{Commits: x, Challenges: e, Responses: z}
}

// isBitProof reports whether a proof of a bit is right.
func isBitProof(gr impl.Group, h int, c int, p impl.Proof) bool {
	if !haveForm(gr, p, 2, 2, 2) {
		return false
	}
	for k, x := range p.Commits {
		if wantPower(h, p.Responses[k], gr.P) != wantProduct(gr, []int{x, wantMinus(gr, c, k)}, []int{1, p.Challenges[k]}) {
			return false
		}
	}
	return (p.Challenges[0]+p.Challenges[1])%gr.Q == bitChallenge(gr, h, c, p.Commits)
}

// provenBit returns the statement that a commitment hides a bit, with its proof.
func provenBit(gr impl.Group, b impl.Bases, m int, r int, coins []int) proven {
	c := wantCommit(gr, b.H, m, r)
	return proven{
		name:   fmt.Sprintf("VerifyBit(%v, %v, %d)", gr, b, c),
		gr:     gr,
		p:      wantBit(gr, b.H, m, r, coins),
		free:   []bool{false, false},
		verify: func(p impl.Proof) (bool, bool) { return impl.VerifyBit(gr, b, c, p) },
		want:   func(p impl.Proof) bool { return isBitProof(gr, b.H, c, p) },
	}
}

// someBits returns statements about bits with their proofs.
func someBits(gr impl.Group) []proven {
	var l []proven
	for i, b := range someBases(gr) {
		exps := someResidues(gr.Q)[3*i:]
		l = append(l, provenBit(gr, b, i%2, exps[0], exps[1:4]), provenBit(gr, b, 0, 0, repeated(0, 3)), provenBit(gr, b, 1, gr.Q-1, exps[4:7]))
	}
	return l
}

func TestProveBitExamples(t *testing.T) {
	least, seven := impl.Group{P: 3, Q: 2, G: 2}, impl.Group{P: 7, Q: 3, G: 2}
	for _, c := range []struct {
		gr      impl.Group
		h, m, r int
		coins   []int
		want    impl.Proof
	}{
		{exampleGroup, exampleBase, 1, 4, []int{2, 5, 7}, proofOf([]int{2, 9}, []int{5, 7}, []int{7, 8})},
		{exampleGroup, exampleBase, 0, 4, []int{2, 5, 7}, proofOf([]int{9, 1}, []int{5, 5}, []int{0, 7})},
		{exampleGroup, exampleBase, 0, 0, []int{0, 0, 0}, proofOf([]int{1, 1}, []int{10, 0}, []int{0, 0})},
		{exampleGroup, exampleBase, 1, 10, []int{10, 10, 10}, proofOf([]int{13, 8}, []int{10, 5}, []int{10, 5})},
		{exampleGroup, 2, 1, 3, []int{4, 0, 6}, proofOf([]int{18, 16}, []int{0, 8}, []int{6, 6})},
		{least, 2, 0, 1, []int{1, 1, 0}, proofOf([]int{2, 1}, []int{0, 1}, []int{1, 0})},
		{least, 2, 1, 0, []int{0, 1, 1}, proofOf([]int{1, 1}, []int{1, 0}, []int{1, 0})},
		{least, 2, 1, 1, []int{1, 0, 1}, proofOf([]int{2, 2}, []int{0, 0}, []int{1, 1})},
		{seven, 4, 1, 2, []int{1, 2, 0}, proofOf([]int{4, 4}, []int{2, 2}, []int{0, 2})},
		{topGroup, topBase, 1, 999999190, []int{123456789, 500000000, 999999189}, proofOf([]int{1979849139, 1061472685}, []int{500000000, 560530899}, []int{999999189, 562925081})},
		{topGroup, topBase, 0, 500000000, []int{999999190, 1, 987654321}, proofOf([]int{665562793, 319948009}, []int{202448991, 1}, []int{390682792, 987654321})},
	} {
		got, ok := impl.ProveBit(c.gr, impl.Bases{H: c.h}, c.m, c.r, c.coins)
		checkProof(t, fmt.Sprintf("ProveBit(%v, %d, %d, %d, %v)", c.gr, c.h, c.m, c.r, c.coins), c.want, got, ok)
	}
}

func TestVerifyBitExamples(t *testing.T) {
	b, p := impl.Bases{H: exampleBase}, proofOf([]int{2, 9}, []int{5, 7}, []int{7, 8})
	for _, x := range elementsIn(exampleGroup) {
		got, ok := impl.VerifyBit(exampleGroup, b, x, p)
		checkVerdict(t, fmt.Sprint("VerifyBit of ", x), x == 1, got, ok)
	}
	for _, other := range []impl.Proof{{}, proofOf([]int{9, 2}, []int{5, 7}, []int{7, 8}), proofOf([]int{2, 9}, []int{7, 5}, []int{7, 8}), proofOf([]int{2, 9}, []int{5, 7}, []int{8, 7}), proofOf([]int{2}, []int{5}, []int{7}), proofOf([]int{2, 9}, []int{5, 18}, []int{7, 8}), proofOf([]int{2, 9}, []int{5, 7}, []int{-4, 8}), proofOf([]int{25, 9}, []int{5, 7}, []int{7, 8})} {
		got, ok := impl.VerifyBit(exampleGroup, b, 1, other)
		checkVerdict(t, fmt.Sprint("VerifyBit of the proof ", other), false, got, ok)
	}
}

// checkBit compares the proof of a bit with the expected one and verifies it.
func checkBit(t *testing.T, gr impl.Group, b impl.Bases, m int, r int, coins []int) {
	t.Helper()
	name := fmt.Sprintf("ProveBit(%v, %v, %d, %d, %v)", gr, b, m, r, coins)
	p, ok := impl.ProveBit(gr, b, m, r, coins)
	checkProof(t, name, wantBit(gr, b.H, m, r, coins), p, ok)
	accepted, ok := impl.VerifyBit(gr, b, wantCommit(gr, b.H, m, r), p)
	checkVerdict(t, fmt.Sprint("VerifyBit of ", name), true, accepted, ok)
}

// TestBitsOfSmallGroups takes all bases H, all r and all coins of groups with at most 5 elements.
func TestBitsOfSmallGroups(t *testing.T) {
	for _, gr := range smallGroups() {
		if gr.Q > 5 {
			continue
		}
		for _, h := range elementsIn(gr)[1:] {
			for _, l := range listsIn(gr.Q, 4) {
				checkBit(t, gr, impl.Bases{H: h}, 0, l[0], l[1:])
				checkBit(t, gr, impl.Bases{H: h}, 1, l[0], l[1:])
			}
		}
	}
}

func TestBitsOfAllGroups(t *testing.T) {
	for _, gr := range allGroups() {
		for i, b := range someBases(gr) {
			for k, r := range someExponents(gr) {
				for m := range 2 {
					checkBit(t, gr, b, m, r, someResidues(gr.Q)[i+k:i+k+3])
				}
			}
		}
	}
}

// TestOtherNumbersAreNoBits takes integers that are neither 0 nor 1; some have the same residues or the same last bit.
func TestOtherNumbersAreNoBits(t *testing.T) {
	for _, gr := range allGroups() {
		for _, b := range someBases(gr) {
			for _, m := range append(notExponents(gr), -2, 2, 3, 4, gr.Q/2+2, gr.Q-1, gr.Q+1, 1-gr.Q, -gr.Q) {
				if m == 0 || m == 1 {
					continue
				}
				p, ok := impl.ProveBit(gr, b, m, 1, []int{0, 1, 0})
				checkNone(t, fmt.Sprintf("ProveBit(%v, %v, %d)", gr, b, m), p, ok)
			}
		}
	}
}

// TestBitProofsAreAccepted shows that the changed proofs are refused for the changes alone.
func TestBitProofsAreAccepted(t *testing.T) {
	for _, gr := range allGroups() {
		for _, s := range someBits(gr) {
			got, ok := s.verify(s.p)
			checkVerdict(t, fmt.Sprint(s.name, " of ", s.p), true, got, ok)
			checkVerdict(t, fmt.Sprint("the reference of ", s.name, " of ", s.p), true, s.want(s.p), true)
		}
	}
}

// checkSameSum changes both challenges so that their sum stays the right one.
func (s proven) checkSameSum(t *testing.T) {
	t.Helper()
	for _, d := range []int{1, s.gr.Q / 2, s.gr.Q - 1} {
		p := s.p
		p.Challenges = []int{(p.Challenges[0] + d) % s.gr.Q, (p.Challenges[1] + s.gr.Q - d) % s.gr.Q}
		s.checkAny(t, "the same sum of challenges", p)
	}
}

// TestChangedBitProofs takes other commits, challenges, responses, lengths and orders.
func TestChangedBitProofs(t *testing.T) {
	for _, gr := range allGroups() {
		for _, s := range someBits(gr) {
			s.checkCommits(t)
			s.checkChallenges(t)
			s.checkResponses(t)
			s.checkLengths(t)
			s.checkExchanged(t)
			s.checkSameSum(t)
		}
	}
}

// TestAllBitProofsOfSmallGroups verifies all proofs of the right form for all bases H and all elements of groups with 2 or 3 elements.
func TestAllBitProofsOfSmallGroups(t *testing.T) {
	for _, gr := range []impl.Group{{P: 3, Q: 2, G: 2}, {P: 23, Q: 2, G: 22}, {P: 7, Q: 3, G: 2}, {P: 43, Q: 3, G: 36}} {
		proofs, accepted := allProofs(gr, 2, 2, 2), 0
		for _, h := range elementsIn(gr)[1:] {
			for _, c := range elementsIn(gr) {
				for _, p := range proofs {
					got, ok := impl.VerifyBit(gr, impl.Bases{H: h}, c, p)
					checkVerdict(t, fmt.Sprintf("VerifyBit(%v, %d, %d, %v)", gr, h, c, p), isBitProof(gr, h, c, p), got, ok)
					if got {
						accepted++
					}
				}
			}
		}
		// For each pair of commits, the first challenge is free, and everything else follows from it.
		if want := (gr.Q - 1) * gr.Q * gr.Q * gr.Q * gr.Q; accepted != want {
			t.Errorf("%d proofs in %v are accepted; want %d", accepted, gr, want)
		}
	}
}

// TestBitProofsOfOtherCommitments takes other elements, bases H and generators with the same proof.
func TestBitProofsOfOtherCommitments(t *testing.T) {
	for _, gr := range allGroups() {
		for i, b := range someBases(gr) {
			exps := someResidues(gr.Q)[2*i:]
			p, c := wantBit(gr, b.H, i%2, exps[0], exps[1:4]), wantCommit(gr, b.H, i%2, exps[0])
			name := fmt.Sprintf("of the proof %v for %d with the bases %v in %v", p, c, b, gr)
			for _, x := range append(someElements(gr)[:20], c*gr.G%gr.P, wantMinus(gr, c, 1), c*b.H%gr.P) {
				got, ok := impl.VerifyBit(gr, b, x, p)
				checkVerdict(t, fmt.Sprint("VerifyBit for ", x, name), isBitProof(gr, b.H, x, p), got, ok)
			}
			for _, h := range basesIn(gr)[:20] {
				got, ok := impl.VerifyBit(gr, impl.Bases{H: h}, c, p)
				checkVerdict(t, fmt.Sprint("VerifyBit with the base ", h, name), isBitProof(gr, h, c, p), got, ok)
				other := impl.Group{P: gr.P, Q: gr.Q, G: h}
				got, ok = impl.VerifyBit(other, b, c, p)
				checkVerdict(t, fmt.Sprint("VerifyBit with the generator ", h, name), isBitProof(other, b.H, c, p), got, ok)
			}
		}
	}
}

// TestBitProofsIgnoreHs makes and verifies proofs with the same H and other Hs.
func TestBitProofsIgnoreHs(t *testing.T) {
	for _, gr := range allGroups() {
		want, _ := impl.ProveBit(gr, impl.Bases{H: gr.G}, 1, 0, []int{1, 1, 0})
		for _, b := range someBases(gr) {
			other := impl.Bases{H: gr.G, Hs: b.Hs}
			p, ok := impl.ProveBit(gr, other, 1, 0, []int{1, 1, 0})
			checkProof(t, fmt.Sprintf("ProveBit in %v with the bases %v", gr, b.Hs), want, p, ok)
			got, ok := impl.VerifyBit(gr, other, gr.G, want)
			checkVerdict(t, fmt.Sprintf("VerifyBit in %v with the bases %v", gr, b.Hs), true, got, ok)
		}
	}
}

// TestBitProofsOfOtherChallenges takes proofs that fulfil the equations of both cases for a challenge of another list or label.
func TestBitProofsOfOtherChallenges(t *testing.T) {
	for _, gr := range allGroups() {
		accepted := 0
		for i, b := range someBases(gr) {
			h, m, exps := b.H, i%2, someResidues(gr.Q)[4+3*i:]
			right, c := wantBit(gr, h, m, exps[0], exps[1:4]), wantCommit(gr, h, m, exps[0])
			x := right.Commits
			for _, e := range []int{0, 1, exps[4], wantChallenge(gr, "bit", gr.G, h, c, x[0], x[1]), wantChallenge(gr, "bit", h, c), wantChallenge(gr, "bit", h, c, x[1], x[0]), wantChallenge(gr, "bit", c, x[0], x[1]), wantChallenge(gr, "", h, c, x[0], x[1]), wantChallenge(gr, "sum", h, c, x[0], x[1]), wantChallenge(gr, "Bit", h, c, x[0], x[1])} {
				own := (e + gr.Q - exps[2]) % gr.Q
				p := impl.Proof{Commits: x, Challenges: replaced(right.Challenges, m, own), Responses: replaced(right.Responses, m, wantResponse(gr, exps[1], own, exps[0]))}
				got, ok := impl.VerifyBit(gr, b, c, p)
				checkVerdict(t, fmt.Sprintf("VerifyBit(%v, %v, %d, %v)", gr, b, c, p), isBitProof(gr, h, c, p), got, ok)
				if got {
					accepted++
				}
			}
		}
		if gr.Q > 1000000 && accepted > 0 {
			t.Errorf("%d proofs in %v with other challenges are accepted", accepted, gr)
		}
	}
}

// TestOneOfProofsAreNoBitProofs takes chapter 7's proof of the same two cases, whose challenge is made of other elements.
func TestOneOfProofsAreNoBitProofs(t *testing.T) {
	c := wantCommit(topGroup, topBase, 1, 4)
	var l []impl.EqualLog
	for k := range 2 {
		y := wantMinus(topGroup, c, k)
		l = append(l, impl.EqualLog{G1: topBase, Y1: y, G2: topBase, Y2: y})
	}
	p, ok := impl.ProveOneOf(topGroup, "bit", l, 1, 4, []int{5, 7, 2})
	if !ok {
		t.Error("ProveOneOf fails")
	}
	p.Commits = []int{p.Commits[0], p.Commits[2]}
	got, ok := impl.VerifyBit(topGroup, impl.Bases{H: topBase}, c, p)
	checkVerdict(t, "VerifyBit of a proof of one of several statements", false, got, ok)
	same, _ := impl.ProveBit(topGroup, impl.Bases{H: topBase}, 1, 4, []int{2, 5, 7})
	if !slices.Equal(p.Commits, same.Commits) {
		t.Errorf("the commits %v and %v of the same cases differ", p.Commits, same.Commits)
	}
}
