package tests

import (
	"fmt"
	"slices"
	"testing"

	"loop.example/g00878/impl"
)

// Promise 10 for changed proofs of ranges: exactly the proofs for which the document's conditions hold are accepted.

// provenRange is the statement that a commitment hides a number of n bits, with an accepted proof.
type provenRange struct {
	gr impl.Group
	b  impl.Bases
	c  int
	n  int
	x  impl.RangeProof
}

// provenRangeOf returns the statement about the commitment to m and r, with its proof.
func provenRangeOf(gr impl.Group, b impl.Bases, m int, r int, n int, coins []int) provenRange {
	return provenRange{gr: gr, b: b, c: wantCommit(gr, b.H, m, r), n: n, x: wantRange(gr, b.H, m, r, n, coins)}
}

// someRanges returns statements about ranges of several lengths with their proofs.
func someRanges(gr impl.Group) []provenRange {
	var l []provenRange
	for i, n := range someBitCounts(gr) {
		b := someBases(gr)[2*i : 2*i+2]
		l = append(l, provenRangeOf(gr, b[0], 1<<n-1, someResidues(gr.Q)[5+i], n, coinsIn(gr, i, 4*n-1)), provenRangeOf(gr, b[1], (1<<n)/3, 0, n, coinsIn(gr, 7+i, 4*n-1)))
	}
	return append(l, provenRangeOf(gr, impl.Bases{H: gr.G}, 0, 0, min(2, mostBits(gr)), repeated(0, 4*min(2, mostBits(gr))-1)))
}

// checkOther verifies any proof for a statement and compares the verdict with the conditions.
func (s provenRange) checkOther(t *testing.T, change string, x impl.RangeProof) {
	t.Helper()
	got, ok := impl.VerifyRange(s.gr, s.b, s.c, s.n, x)
	checkVerdict(t, fmt.Sprintf("VerifyRange(%v, %v, %d, %d) of %v with %s, %v", s.gr, s.b, s.c, s.n, s.x, change, x), isRangeProof(s.gr, s.b.H, s.c, s.n, x), got, ok)
}

// checkWrong fails unless a proof is refused, with true.
func (s provenRange) checkWrong(t *testing.T, change string, x impl.RangeProof) {
	t.Helper()
	got, ok := impl.VerifyRange(s.gr, s.b, s.c, s.n, x)
	checkVerdict(t, fmt.Sprintf("VerifyRange(%v, %v, %d, %d) of %v with %s, %v", s.gr, s.b, s.c, s.n, s.x, change, x), false, got, ok)
}

// withProof returns a range with another proof of one bit.
func withProof(x impl.RangeProof, i int, p impl.Proof) impl.RangeProof {
	proofs := slices.Clone(x.Proofs)
	proofs[i] = p
	return impl.RangeProof{Bits: x.Bits, Proofs: proofs}
}

// bitIn returns the proof of one bit of a range as one that is verified together with the others.
func (s provenRange) bitIn(i int) proven {
	return proven{
		name:   fmt.Sprintf("VerifyRange(%v, %v, %d, %d, %v) with another proof of the bit %d", s.gr, s.b, s.c, s.n, s.x, i),
		gr:     s.gr,
		p:      s.x.Proofs[i],
		free:   []bool{false, false},
		verify: func(p impl.Proof) (bool, bool) { return impl.VerifyRange(s.gr, s.b, s.c, s.n, withProof(s.x, i, p)) },
		want: func(p impl.Proof) bool {
			return isRangeProof(s.gr, s.b.H, s.c, s.n, withProof(s.x, i, p))
		},
	}
}

// TestRangeProofsAreAccepted shows that the changed proofs are refused for the changes alone.
func TestRangeProofsAreAccepted(t *testing.T) {
	for _, gr := range rangeGroups() {
		for _, s := range someRanges(gr) {
			got, ok := impl.VerifyRange(gr, s.b, s.c, s.n, s.x)
			checkVerdict(t, fmt.Sprintf("VerifyRange of %+v", s), true, got, ok)
			checkVerdict(t, fmt.Sprintf("the reference of %+v", s), true, isRangeProof(gr, s.b.H, s.c, s.n, s.x), true)
		}
	}
}

// TestChangedBitsOfRanges takes other elements and integers that are no elements as Bits. As 2 is not a multiple of Q, no other element has the same product.
func TestChangedBitsOfRanges(t *testing.T) {
	for _, gr := range rangeGroups() {
		for _, s := range someRanges(gr) {
			for i, c := range s.x.Bits {
				for _, other := range slices.Concat(someElements(gr)[:6], notElements(gr), []int{c + gr.P, c - gr.P, gr.P - c, -c, c * gr.G % gr.P, c * s.b.H % gr.P, wantMinus(gr, c, 1)}) {
					if other != c {
						s.checkWrong(t, "another bit", impl.RangeProof{Bits: replaced(s.x.Bits, i, other), Proofs: s.x.Proofs})
					}
				}
			}
		}
	}
}

// TestChangedProofsOfRanges changes the proof of each bit, and for long ranges those of the first, a middle and the last one.
func TestChangedProofsOfRanges(t *testing.T) {
	for _, gr := range rangeGroups() {
		for _, s := range someRanges(gr) {
			for _, i := range slices.Compact([]int{0, s.n / 2, s.n - 1}) {
				bit := s.bitIn(i)
				bit.checkCommits(t)
				bit.checkChallenges(t)
				bit.checkResponses(t)
				bit.checkLengths(t)
				bit.checkExchanged(t)
				bit.checkSameSum(t)
			}
		}
	}
}

// TestRangesWithOneWrongProof takes an empty proof and one with another challenge at each place.
func TestRangesWithOneWrongProof(t *testing.T) {
	for _, gr := range rangeGroups() {
		for _, s := range someRanges(gr) {
			for i, p := range s.x.Proofs {
				s.checkWrong(t, "no proof of a bit", withProof(s.x, i, impl.Proof{}))
				p.Challenges = replaced(p.Challenges, 0, (p.Challenges[0]+1)%gr.Q)
				s.checkWrong(t, "another challenge", withProof(s.x, i, p))
			}
		}
	}
}

// TestRangesOfOtherLengths takes one bit or one proof too many or too few, or both, at each place, and lists that are empty or far too long. A missing element stands behind the list where it is cut off.
func TestRangesOfOtherLengths(t *testing.T) {
	for _, gr := range rangeGroups() {
		for _, s := range someRanges(gr) {
			bits, proofs := s.x.Bits, s.x.Proofs
			for i := range s.n + 1 {
				longer := slices.Insert(slices.Clone(proofs), i, proofs[0])
				s.checkWrong(t, "a bit too many", impl.RangeProof{Bits: inserted(bits, i, 1), Proofs: proofs})
				s.checkWrong(t, "a proof too many", impl.RangeProof{Bits: bits, Proofs: longer})
				s.checkWrong(t, "both too many", impl.RangeProof{Bits: inserted(bits, i, bits[0]), Proofs: longer})
				if i == s.n {
					continue
				}
				fewer := slices.Delete(slices.Clone(proofs), i, i+1)
				s.checkWrong(t, "a bit too few", impl.RangeProof{Bits: removed(bits, i), Proofs: proofs})
				s.checkWrong(t, "a proof too few", impl.RangeProof{Bits: bits, Proofs: fewer})
				s.checkWrong(t, "both too few", impl.RangeProof{Bits: removed(bits, i), Proofs: fewer})
			}
			for _, x := range []impl.RangeProof{{}, {Bits: bits}, {Proofs: proofs}, {Bits: bits[:s.n-1], Proofs: proofs[:s.n-1]}, {Bits: bits, Proofs: proofs[:s.n-1]}, {Bits: bits[:s.n-1], Proofs: proofs},
				{Bits: repeated(1, 1000), Proofs: slices.Repeat(proofs[:1], 1000)}, {Bits: append(slices.Clone(bits), bits...), Proofs: append(slices.Clone(proofs), proofs...)}} {
				s.checkWrong(t, "lists of other lengths", x)
			}
		}
	}
}

// TestRangesInAnotherOrder exchanges two bits, their proofs, or both.
func TestRangesInAnotherOrder(t *testing.T) {
	for _, gr := range rangeGroups() {
		for _, s := range someRanges(gr) {
			for i := range s.n {
				k := (i + 1) % s.n
				bits := replaced(replaced(s.x.Bits, i, s.x.Bits[k]), k, s.x.Bits[i])
				proofs := withProof(withProof(s.x, i, s.x.Proofs[k]), k, s.x.Proofs[i]).Proofs
				s.checkOther(t, "two bits exchanged", impl.RangeProof{Bits: bits, Proofs: s.x.Proofs})
				s.checkOther(t, "two proofs exchanged", impl.RangeProof{Bits: s.x.Bits, Proofs: proofs})
				s.checkOther(t, "two bits with their proofs exchanged", impl.RangeProof{Bits: bits, Proofs: proofs})
			}
		}
	}
}

// TestRangesOfTheSameProduct moves a factor from one bit to the next one, so that the product stays the same: G, which makes them commitments to other numbers than bits, and H, for which they have other proofs.
func TestRangesOfTheSameProduct(t *testing.T) {
	for _, gr := range rangeGroups() {
		for _, s := range someRanges(gr) {
			for i := range s.n - 1 {
				for _, x := range []int{gr.G, s.b.H} {
					bits := replaced(s.x.Bits, i, wantProduct(gr, []int{s.x.Bits[i], x}, []int{1, 2}))
					bits[i+1] = wantProduct(gr, []int{bits[i+1], x}, []int{1, gr.Q - 1})
					s.checkOther(t, "the same product of the bits", impl.RangeProof{Bits: bits, Proofs: s.x.Proofs})
				}
			}
		}
	}
}

// TestRangesOfNumbersThatAreNoBits takes bits that combine to the commitment, but one of them hides 2, for which there is a simulated proof at most.
func TestRangesOfNumbersThatAreNoBits(t *testing.T) {
	for _, gr := range []impl.Group{topGroup, edgeGroups[4], edgeGroups[5]} {
		b := impl.Bases{H: basesIn(gr)[5]}
		x := wantRange(gr, b.H, 3, 5, 3, coinsIn(gr, 4, 11))
		rs := wantBitExponents(gr, 5, coinsIn(gr, 4, 11)[:2])
		x.Bits[0] = wantCommit(gr, b.H, 2, rs[0])
		c := wantCommit(gr, b.H, 4, 5)
		for _, coins := range [][]int{{1, 2, 3}, {0, 0, 0}, {5, gr.Q - 1, 7}} {
			for m := range 2 {
				x.Proofs[0] = wantBit(gr, b.H, m, rs[0], coins)
				is, ok := impl.VerifyRange(gr, b, c, 3, x)
				checkVerdict(t, fmt.Sprintf("VerifyRange(%v, %v) of a bit of 2", gr, b), false, is, ok)
			}
		}
	}
}

// TestRangesOfOtherStatements takes other commitments, numbers of bits, bases H and generators with the same proof.
func TestRangesOfOtherStatements(t *testing.T) {
	for _, gr := range rangeGroups() {
		for _, s := range someRanges(gr) {
			for _, c := range append(someElements(gr)[:10], s.c*gr.G%gr.P, s.c*s.b.H%gr.P, wantMinus(gr, s.c, 1), s.x.Bits[0]) {
				got, ok := impl.VerifyRange(gr, s.b, c, s.n, s.x)
				checkVerdict(t, fmt.Sprintf("VerifyRange of %+v for %d", s, c), c == s.c, got, ok)
			}
			for n := 1; n <= mostBits(gr); n++ {
				got, ok := impl.VerifyRange(gr, s.b, s.c, n, s.x)
				checkVerdict(t, fmt.Sprintf("VerifyRange of %+v with %d bits", s, n), n == s.n, got, ok)
			}
			for _, h := range basesIn(gr)[:10] {
				other := s
				other.b = impl.Bases{H: h}
				other.checkOther(t, "another base H", s.x)
				other = s
				other.gr.G = h
				other.checkOther(t, "another generator", s.x)
			}
		}
	}
}

// TestShorterRangesOfLongerOnes takes the first bits of a range alone, for the product of these.
func TestShorterRangesOfLongerOnes(t *testing.T) {
	for _, gr := range rangeGroups() {
		for _, s := range someRanges(gr) {
			for n := 1; n <= s.n; n++ {
				x := impl.RangeProof{Bits: s.x.Bits[:n], Proofs: s.x.Proofs[:n]}
				c := wantProduct(gr, x.Bits, weightsOf(n))
				got, ok := impl.VerifyRange(gr, s.b, c, n, x)
				checkVerdict(t, fmt.Sprintf("VerifyRange(%v, %v, %d, %d, %v)", gr, s.b, c, n, x), true, got, ok)
			}
		}
	}
}

// TestAllRangeProofsOfSmallestGroups verifies all proofs of the right form for ranges of one bit, all bases H and all elements of groups with 3 elements.
func TestAllRangeProofsOfSmallestGroups(t *testing.T) {
	for _, gr := range []impl.Group{{P: 7, Q: 3, G: 2}, {P: 13, Q: 3, G: 9}} {
		proofs, accepted := allProofs(gr, 2, 2, 2), 0
		for _, l := range listsIn(gr.Q, 3) {
			h, c, bit := elementsIn(gr)[l[0]], elementsIn(gr)[l[1]], elementsIn(gr)[l[2]]
			if h == 1 {
				continue
			}
			for _, p := range proofs {
				x := impl.RangeProof{Bits: []int{bit}, Proofs: []impl.Proof{p}}
				got, ok := impl.VerifyRange(gr, impl.Bases{H: h}, c, 1, x)
				checkVerdict(t, fmt.Sprintf("VerifyRange(%v, %d, %d, %v)", gr, h, c, x), isRangeProof(gr, h, c, 1, x), got, ok)
				if got {
					accepted++
				}
			}
		}
		// The only bit is the commitment, and has Q^3 proofs.
		if want := (gr.Q - 1) * gr.Q * gr.Q * gr.Q * gr.Q; accepted != want {
			t.Errorf("%d proofs in %v are accepted; want %d", accepted, gr, want)
		}
	}
}
