package tests

import (
	"fmt"
	"slices"
	"testing"

	"loop.example/g00878/impl"
)

// Promise 10 for proofs of sums.

// sumChallenge returns the challenge for a product of commitments, a sum and a commit, from the literal list of what is hashed.
func sumChallenge(gr impl.Group, h int, c int, total int, x int) int {
	return wantChallenge(gr, "sum", h, c, total, x)
}

// wantSumOf returns the sum of exponents modulo Q.
func wantSumOf(gr impl.Group, l []int) int {
	return wantDot(l, repeated(1, len(l)), gr.Q)
}

// commitsTo returns the commitments to exponents.
func commitsTo(gr impl.Group, h int, l []int, rs []int) []int {
	cs := make([]int, len(l))
	for i, m := range l {
		cs[i] = wantCommit(gr, h, m, rs[i])
	}
	return cs
}

// wantProductOf returns the product of elements.
func wantProductOf(gr impl.Group, l []int) int {
	return wantProduct(gr, l, repeated(1, len(l)))
}

// wantSum returns the proof of a sum with one coin.
func wantSum(gr impl.Group, h int, rs []int, l []int, coin int) impl.Proof {
	x := wantPower(h, coin, gr.P)
	e := sumChallenge(gr, h, wantProductOf(gr, commitsTo(gr, h, l, rs)), wantSumOf(gr, l), x)
	return impl.Proof{Commits: []int{x}, Challenges: []int{e}, Responses: []int{wantResponse(gr, coin, e, wantSumOf(gr, rs))}}
}

// isSumProof reports whether a proof of a sum is right.
func isSumProof(gr impl.Group, h int, cs []int, total int, p impl.Proof) bool {
	if !haveForm(gr, p, 1, 1, 1) {
		return false
	}
	c, x, e := wantProductOf(gr, cs), p.Commits[0], p.Challenges[0]
	return wantPower(h, p.Responses[0], gr.P) == wantProduct(gr, []int{x, wantMinus(gr, c, total)}, []int{1, e}) && e == sumChallenge(gr, h, c, total, x)
}

// provenSum returns the statement that commitments have a sum, with its proof.
func provenSum(gr impl.Group, b impl.Bases, rs []int, l []int, coin int) proven {
	cs, total := commitsTo(gr, b.H, l, rs), wantSumOf(gr, l)
	return proven{
		name:   fmt.Sprintf("VerifySum(%v, %v, %v, %d)", gr, b, cs, total),
		gr:     gr,
		p:      wantSum(gr, b.H, rs, l, coin),
		free:   []bool{false},
		verify: func(p impl.Proof) (bool, bool) { return impl.VerifySum(gr, b, cs, total, p) },
		want:   func(p impl.Proof) bool { return isSumProof(gr, b.H, cs, total, p) },
	}
}

// someSums returns statements about sums with their proofs.
func someSums(gr impl.Group) []proven {
	var proofs []proven
	for i, b := range someBases(gr) {
		exps := someResidues(gr.Q)[2*i:]
		proofs = append(proofs, provenSum(gr, b, exps[:1], exps[1:2], exps[2]), provenSum(gr, b, []int{0, 0}, []int{0, 0}, 0), provenSum(gr, b, exps[:maxList], exps[1:1+maxList], gr.Q-1))
	}
	return proofs
}

func TestProveSumExamples(t *testing.T) {
	least := impl.Group{P: 3, Q: 2, G: 2}
	for _, c := range []struct {
		gr    impl.Group
		h     int
		rs, l []int
		coin  int
		c     int
		total int
		want  impl.Proof
	}{
		{exampleGroup, exampleBase, []int{4}, []int{1}, 2, 1, 1, proofOf([]int{9}, []int{7}, []int{8})},
		{exampleGroup, exampleBase, []int{4, 5, 10}, []int{1, 10, 3}, 7, 2, 3, proofOf([]int{2}, []int{7}, []int{8})},
		{exampleGroup, exampleBase, []int{0}, []int{0}, 0, 1, 0, proofOf([]int{1}, []int{7}, []int{0})},
		{exampleGroup, exampleBase, []int{10, 1}, []int{10, 1}, 10, 1, 0, proofOf([]int{8}, []int{8}, []int{10})},
		{exampleGroup, exampleBase, repeated(10, maxList), repeated(10, maxList), 5, 16, 9, proofOf([]int{13}, []int{1}, []int{3})},
		{least, 2, []int{1, 1}, []int{1, 0}, 1, 2, 1, proofOf([]int{2}, []int{0}, []int{1})},
		{least, 2, []int{1, 1}, []int{1, 1}, 0, 1, 0, proofOf([]int{1}, []int{1}, []int{0})},
		{topGroup, topBase, []int{999999190, 5, 500000000}, []int{999999189, 7, 999999190}, 123456789, 1274990403, 4, proofOf([]int{1061472685}, []int{458682687}, []int{995485307})},
	} {
		name := fmt.Sprintf("Sum(%v, %d, %v, %v, %d)", c.gr, c.h, c.rs, c.l, c.coin)
		got, ok := impl.ProveSum(c.gr, impl.Bases{H: c.h}, c.rs, c.l, []int{c.coin})
		checkProof(t, "Prove"+name, c.want, got, ok)
		accepted, ok := impl.VerifySum(c.gr, impl.Bases{H: c.h}, []int{c.c}, c.total, c.want)
		checkVerdict(t, "Verify"+name+" for the product alone", true, accepted, ok)
	}
}

// checkSumProof compares the proof of a sum with the expected one and verifies it for the commitments of the program.
func checkSumProof(t *testing.T, gr impl.Group, b impl.Bases, rs []int, l []int, coin int) {
	t.Helper()
	name := fmt.Sprintf("ProveSum(%v, %v, %v, %v, %d)", gr, b, rs, l, coin)
	p, ok := impl.ProveSum(gr, b, rs, l, []int{coin})
	checkProof(t, name, wantSum(gr, b.H, rs, l, coin), p, ok)
	cs := make([]int, len(l))
	for i, m := range l {
		cs[i], _ = impl.Commit(gr, b, m, rs[i])
	}
	accepted, ok := impl.VerifySum(gr, b, cs, wantSumOf(gr, l), p)
	checkVerdict(t, fmt.Sprint("VerifySum of ", name), true, accepted, ok)
}

// TestSumsOfOneAndTwoCommitments takes all bases H, all exponents and all coins of groups with 2 or 3 elements, and for single commitments also with 5.
func TestSumsOfOneAndTwoCommitments(t *testing.T) {
	for _, gr := range smallGroups() {
		if gr.Q > 5 {
			continue
		}
		for _, h := range elementsIn(gr)[1:] {
			for _, l := range listsIn(gr.Q, 3) {
				checkSumProof(t, gr, impl.Bases{H: h}, l[:1], l[1:2], l[2])
			}
			if gr.Q == 5 {
				continue
			}
			for _, l := range listsIn(gr.Q, 5) {
				checkSumProof(t, gr, impl.Bases{H: h}, l[:2], l[2:4], l[4])
			}
		}
	}
}

func TestSumsOfAllGroups(t *testing.T) {
	for _, gr := range allGroups() {
		for i, b := range someBases(gr) {
			for _, n := range []int{1, 2, 3, maxList - 1, maxList} {
				for k, l := range exponentLists(gr, n) {
					checkSumProof(t, gr, b, someResidues(gr.Q)[i:i+n], l, someExponents(gr)[k])
					checkSumProof(t, gr, b, repeated(gr.Q-1, n), l, someResidues(gr.Q)[i+k])
					checkSumProof(t, gr, b, repeated(0, n), l, someResidues(gr.Q)[i+k])
				}
			}
		}
	}
}

// TestSumsOfNoCommitments takes empty lists, too many exponents and lists of different lengths.
func TestSumsOfNoCommitments(t *testing.T) {
	for _, gr := range allGroups() {
		for _, b := range someBases(gr) {
			for _, n := range []int{0, 1, 2, maxList - 1, maxList, maxList + 1, 1000} {
				for _, k := range []int{0, 1, 2, maxList - 1, maxList, maxList + 1, 1000} {
					if n == k && 0 < n && n <= maxList {
						continue
					}
					p, ok := impl.ProveSum(gr, b, repeated(1, n), repeated(0, k), []int{1})
					checkNone(t, fmt.Sprintf("ProveSum(%v, %v) of %d and %d exponents", gr, b, n, k), p, ok)
				}
			}
			p := wantSum(gr, b.H, repeated(0, maxList), repeated(0, maxList), 1)
			for _, n := range []int{0, maxList + 1, 1000} {
				is, ok := impl.VerifySum(gr, b, repeated(1, n), 0, p)
				checkNone(t, fmt.Sprintf("VerifySum(%v, %v) of %d commitments", gr, b, n), is, ok)
			}
			is, ok := impl.VerifySum(gr, b, repeated(1, maxList), 0, p)
			checkVerdict(t, fmt.Sprintf("VerifySum(%v, %v) of MaxList commitments", gr, b), true, is, ok)
		}
	}
}

// TestSumProofsAreAccepted shows that the changed proofs are refused for the changes alone.
func TestSumProofsAreAccepted(t *testing.T) {
	for _, gr := range allGroups() {
		for _, s := range someSums(gr) {
			got, ok := s.verify(s.p)
			checkVerdict(t, fmt.Sprint(s.name, " of ", s.p), true, got, ok)
			checkVerdict(t, fmt.Sprint("the reference of ", s.name, " of ", s.p), true, s.want(s.p), true)
		}
	}
}

// TestChangedSumProofs takes other commits, challenges, responses, lengths and orders.
func TestChangedSumProofs(t *testing.T) {
	for _, gr := range allGroups() {
		for _, s := range someSums(gr) {
			s.checkCommits(t)
			s.checkChallenges(t)
			s.checkResponses(t)
			s.checkLengths(t)
			s.checkExchanged(t)
		}
	}
}

// TestAllSumProofsOfSmallGroups verifies all proofs of the right form for all bases H, all elements and all totals of groups with at most 5 elements.
func TestAllSumProofsOfSmallGroups(t *testing.T) {
	for _, gr := range []impl.Group{{P: 3, Q: 2, G: 2}, {P: 23, Q: 2, G: 22}, {P: 7, Q: 3, G: 2}, {P: 11, Q: 5, G: 3}} {
		proofs, accepted := allProofs(gr, 1, 1, 1), 0
		for _, h := range elementsIn(gr)[1:] {
			for _, c := range elementsIn(gr) {
				for total := range gr.Q {
					for _, p := range proofs {
						got, ok := impl.VerifySum(gr, impl.Bases{H: h}, []int{c}, total, p)
						checkVerdict(t, fmt.Sprintf("VerifySum(%v, %d, %d, %d, %v)", gr, h, c, total, p), isSumProof(gr, h, []int{c}, total, p), got, ok)
						if got {
							accepted++
						}
					}
				}
			}
		}
		// Everything else follows from the commit.
		if want := (gr.Q - 1) * gr.Q * gr.Q * gr.Q; accepted != want {
			t.Errorf("%d proofs in %v are accepted; want %d", accepted, gr, want)
		}
	}
}

// checkOtherSum verifies a proof for any commitments and any total.
func checkOtherSum(t *testing.T, gr impl.Group, h int, cs []int, total int, p impl.Proof) {
	t.Helper()
	got, ok := impl.VerifySum(gr, impl.Bases{H: h}, cs, total, p)
	checkVerdict(t, fmt.Sprintf("VerifySum(%v, %d, %v, %d, %v)", gr, h, cs, total, p), isSumProof(gr, h, cs, total, p), got, ok)
}

// TestSumProofsOfOtherStatements takes other totals, commitments, bases H and generators with the same proof, and the commitments in another order or combined to fewer ones, which does not change their product.
func TestSumProofsOfOtherStatements(t *testing.T) {
	for _, gr := range allGroups() {
		for i, b := range someBases(gr) {
			exps := someResidues(gr.Q)[2*i:]
			l, rs := exps[:4], exps[1:5]
			cs, total, p := commitsTo(gr, b.H, l, rs), wantSumOf(gr, l), wantSum(gr, b.H, rs, l, exps[5])
			for _, other := range append(someExponents(gr), (total+1)%gr.Q, (total+gr.Q-1)%gr.Q, l[0]) {
				checkOtherSum(t, gr, b.H, cs, other, p)
			}
			for k := range cs {
				for _, x := range append(someElements(gr)[:8], cs[k]*gr.G%gr.P, cs[k]*b.H%gr.P) {
					checkOtherSum(t, gr, b.H, replaced(cs, k, x), total, p)
				}
				checkOtherSum(t, gr, b.H, removed(cs, k), total, p)
				checkOtherSum(t, gr, b.H, inserted(cs, k, gr.G), total, p)
			}
			for _, same := range [][]int{{cs[3], cs[1], cs[0], cs[2]}, {wantProductOf(gr, cs)}, {cs[0], wantProductOf(gr, cs[1:])}, append([]int{1}, cs...)} {
				got, ok := impl.VerifySum(gr, b, same, total, p)
				checkVerdict(t, fmt.Sprintf("VerifySum(%v, %v) of the same product as %v, %v", gr, b, cs, same), true, got, ok)
			}
			for _, h := range basesIn(gr)[:12] {
				checkOtherSum(t, gr, h, cs, total, p)
				checkOtherSum(t, impl.Group{P: gr.P, Q: gr.Q, G: h}, b.H, cs, total, p)
			}
		}
	}
}

// TestSumsOfBits takes the proofs of bits and of their sum for the same commitments, as for a vote. In small groups, a proof may be right for another sum, too.
func TestSumsOfBits(t *testing.T) {
	for _, gr := range allGroups() {
		for _, b := range someBases(gr) {
			l, rs := []int{0, 1, 0, 1, 1, 0}, someResidues(gr.Q)[5:11]
			checkSumProof(t, gr, b, rs, l, 1)
			p, _ := impl.ProveSum(gr, b, rs, l, []int{2 % gr.Q})
			cs := commitsTo(gr, b.H, l, rs)
			for total := range min(gr.Q, 8) {
				checkOtherSum(t, gr, b.H, cs, total, p)
			}
			for i, m := range l {
				checkBit(t, gr, b, m, rs[i], []int{1, 0, 1})
			}
		}
	}
}

// TestSumProofsOfOtherChallenges takes proofs that fulfil the equation for a challenge of another list or label.
func TestSumProofsOfOtherChallenges(t *testing.T) {
	for _, gr := range allGroups() {
		accepted := 0
		for i, b := range someBases(gr) {
			h, exps := b.H, someResidues(gr.Q)[4+3*i:]
			l, rs := exps[:3], exps[3:6]
			cs, total, x := commitsTo(gr, h, l, rs), wantSumOf(gr, l), wantPower(h, exps[6], gr.P)
			c := wantProductOf(gr, cs)
			for _, e := range []int{0, 1, exps[7], wantChallenge(gr, "sum", h, c, x), wantChallenge(gr, "sum", gr.G, h, c, total, x), wantChallenge(gr, "sum", h, total, c, x), wantChallenge(gr, "sum", h, c, x, total), wantChallenge(gr, "sum", append(append([]int{h}, cs...), total, x)...), wantChallenge(gr, "", h, c, total, x), wantChallenge(gr, "bit", h, c, total, x), wantChallenge(gr, "Sum", h, c, total, x)} {
				p := impl.Proof{Commits: []int{x}, Challenges: []int{e}, Responses: []int{wantResponse(gr, exps[6], e, wantSumOf(gr, rs))}}
				got, ok := impl.VerifySum(gr, b, cs, total, p)
				checkVerdict(t, fmt.Sprintf("VerifySum(%v, %v, %v, %d, %v)", gr, b, cs, total, p), isSumProof(gr, h, cs, total, p), got, ok)
				if got {
					accepted++
				}
			}
		}
		if gr.Q > 1000000 && accepted > 0 {
			t.Errorf("%d proofs in %v with other challenges are accepted", accepted, gr)
		}
	}
}

// TestSumProofsIgnoreHs makes and verifies proofs with the same H and other Hs.
func TestSumProofsIgnoreHs(t *testing.T) {
	for _, gr := range allGroups() {
		want, _ := impl.ProveSum(gr, impl.Bases{H: gr.G}, []int{1, 0}, []int{0, 1}, []int{1})
		for _, b := range someBases(gr) {
			other := impl.Bases{H: gr.G, Hs: slices.Clone(b.Hs)}
			p, ok := impl.ProveSum(gr, other, []int{1, 0}, []int{0, 1}, []int{1})
			checkProof(t, fmt.Sprintf("ProveSum in %v with the bases %v", gr, b.Hs), want, p, ok)
			got, ok := impl.VerifySum(gr, other, []int{gr.G, gr.G}, 1, want)
			checkVerdict(t, fmt.Sprintf("VerifySum in %v with the bases %v", gr, b.Hs), true, got, ok)
		}
	}
}
