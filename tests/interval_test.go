package tests

import (
	"fmt"
	"slices"
	"testing"

	"loop.example/g00878/impl"
)

// Promise 10 for proofs of intervals.

// intervalProof is a pair of proofs: that a number is not below an interval, and that it is not above it.
type intervalProof struct {
	x impl.RangeProof
	y impl.RangeProof
}

// proveInterval returns ProveInterval with both proofs in one result.
func proveInterval(gr impl.Group, b impl.Bases, m int, r int, lo int, hi int, n int, coins []int) (intervalProof, bool) {
	x, y, ok := impl.ProveInterval(gr, b, m, r, lo, hi, n, coins)
	return intervalProof{x, y}, ok
}

// wantInterval returns the proofs of an interval.
func wantInterval(gr impl.Group, h int, m int, r int, lo int, hi int, n int, coins []int) intervalProof {
	return intervalProof{wantRange(gr, h, m-lo, r, n, coins[:4*n-1]), wantRange(gr, h, hi-m, (gr.Q-r)%gr.Q, n, coins[4*n-1:])}
}

// isIntervalProof reports whether the proofs of an interval are right.
func isIntervalProof(gr impl.Group, h int, c int, lo int, hi int, n int, p intervalProof) bool {
	below := wantProduct(gr, []int{gr.G, c}, []int{hi, gr.Q - 1})
	return isRangeProof(gr, h, wantMinus(gr, c, lo), n, p.x) && isRangeProof(gr, h, below, n, p.y)
}

// intervalCoins returns the coins of an interval.
func intervalCoins(gr impl.Group, from int, n int) []int {
	return coinsIn(gr, from, 2*(4*n-1))
}

func TestProveIntervalExamples(t *testing.T) {
	for _, c := range []struct {
		m, r, lo, hi, n int
		coins           []int
		c               int
		want            intervalProof
	}{
		{5, 3, 4, 6, 1, []int{1, 2, 3, 4, 5, 6}, 13, intervalProof{
			impl.RangeProof{Bits: []int{8}, Proofs: []impl.Proof{proofOf([]int{13, 3}, []int{2, 3}, []int{3, 10})}},
			impl.RangeProof{Bits: []int{12}, Proofs: []impl.Proof{proofOf([]int{6, 12}, []int{5, 9}, []int{6, 10})}}}},
		{5, 0, 5, 5, 1, []int{1, 2, 3, 4, 5, 6}, 9, intervalProof{
			impl.RangeProof{Bits: []int{1}, Proofs: []impl.Proof{proofOf([]int{3, 16}, []int{1, 2}, []int{1, 3})}},
			impl.RangeProof{Bits: []int{1}, Proofs: []impl.Proof{proofOf([]int{12, 6}, []int{6, 5}, []int{4, 6})}}}},
		{10, 10, 8, 10, 2, []int{1, 2, 3, 4, 5, 6, 7, 8, 9, 10, 0, 1, 2, 3}, 4, intervalProof{
			impl.RangeProof{Bits: []int{6, 6}, Proofs: []impl.Proof{proofOf([]int{9, 3}, []int{2, 3}, []int{7, 4}), proofOf([]int{4, 13}, []int{6, 2}, []int{7, 7})}},
			impl.RangeProof{Bits: []int{2, 6}, Proofs: []impl.Proof{proofOf([]int{18, 1}, []int{3, 10}, []int{8, 0}), proofOf([]int{3, 3}, []int{10, 2}, []int{4, 3})}}}},
	} {
		b := impl.Bases{H: exampleBase}
		name := fmt.Sprintf("Interval(%d, %d, %d, %d, %d, %v)", c.m, c.r, c.lo, c.hi, c.n, c.coins)
		got, ok := proveInterval(exampleGroup, b, c.m, c.r, c.lo, c.hi, c.n, c.coins)
		if !ok || !same(got, c.want) {
			t.Errorf("Prove%s = %v, %v; want %v, true", name, got, ok, c.want)
		}
		accepted, ok := impl.VerifyInterval(exampleGroup, b, c.c, c.lo, c.hi, c.n, c.want.x, c.want.y)
		checkVerdict(t, "Verify"+name, true, accepted, ok)
	}
}

// checkInterval compares the proofs of an interval with the expected ones and verifies them for the commitment.
func checkInterval(t *testing.T, gr impl.Group, b impl.Bases, m int, r int, lo int, hi int, n int, coins []int) {
	t.Helper()
	name := fmt.Sprintf("ProveInterval(%v, %v, %d, %d, %d, %d, %d, %v)", gr, b, m, r, lo, hi, n, coins)
	got, ok := proveInterval(gr, b, m, r, lo, hi, n, coins)
	if want := wantInterval(gr, b.H, m, r, lo, hi, n, coins); !ok || !same(got, want) {
		t.Errorf("%s = %v, %v; want %v, true", name, got, ok, want)
	}
	c, _ := impl.Commit(gr, b, m, r)
	accepted, ok := impl.VerifyInterval(gr, b, c, lo, hi, n, got.x, got.y)
	checkVerdict(t, fmt.Sprint("VerifyInterval of ", name), true, accepted, ok)
}

// checkNoInterval fails unless there is no proof of an interval.
func checkNoInterval(t *testing.T, gr impl.Group, b impl.Bases, m int, r int, lo int, hi int, n int, coins []int) {
	t.Helper()
	got, ok := proveInterval(gr, b, m, r, lo, hi, n, coins)
	checkNone(t, fmt.Sprintf("ProveInterval(%v, %v, %d, %d, %d, %d, %d, %v)", gr, b, m, r, lo, hi, n, coins), got, ok)
}

// checkAnyInterval takes any exponents and any number of bits, for which there is a proof exactly if the differences are numbers of so many bits.
func checkAnyInterval(t *testing.T, gr impl.Group, b impl.Bases, m int, r int, lo int, hi int, n int, coins []int) {
	t.Helper()
	if lo <= m && m <= hi && m-lo < 1<<n && hi-m < 1<<n {
		checkInterval(t, gr, b, m, r, lo, hi, n, coins)
	} else {
		checkNoInterval(t, gr, b, m, r, lo, hi, n, coins)
	}
}

// TestIntervalsOfSmallGroups takes all exponents as m, lo and hi with all numbers of bits in groups with at most 11 elements.
func TestIntervalsOfSmallGroups(t *testing.T) {
	for _, gr := range smallGroups() {
		if gr.Q == 2 || gr.Q > 11 {
			continue
		}
		for i, l := range listsIn(gr.Q, 3) {
			for n := 1; n <= mostBits(gr); n++ {
				b := impl.Bases{H: basesIn(gr)[i%20]}
				checkAnyInterval(t, gr, b, l[0], i%gr.Q, l[1], l[2], n, intervalCoins(gr, i%30, n))
			}
		}
	}
}

// TestIntervalsOfAllGroups takes lo, m and hi that are equal, m that is equal to one of them or between them, and the greatest differences and those that are greater by 1.
func TestIntervalsOfAllGroups(t *testing.T) {
	for _, gr := range rangeGroups() {
		for i, m := range append(someExponents(gr), gr.Q/2+1) {
			b := someBases(gr)[i%7]
			for k, n := range someBitCounts(gr) {
				most := 1<<n - 1
				for _, lo := range []int{m, m - 1, m - most/2, m - most, m - most - 1, m + 1, 0} {
					for _, hi := range []int{m, m + 1, m + most/2, m + most, m + most + 1, m - 1, gr.Q - 1} {
						if min(lo, hi) < 0 || max(lo, hi) >= gr.Q {
							continue
						}
						checkAnyInterval(t, gr, b, m, someExponents(gr)[k], lo, hi, n, intervalCoins(gr, i+k, n))
					}
				}
			}
		}
	}
}

// TestIntervalsOfAllLengths takes each number of bits, and the exponents 0 and Q-1 for H.
func TestIntervalsOfAllLengths(t *testing.T) {
	for _, gr := range []impl.Group{topGroup, edgeGroups[2], edgeGroups[4]} {
		for n := 1; n <= mostBits(gr); n++ {
			b, m := impl.Bases{H: basesIn(gr)[n]}, gr.Q/2
			most := min(1<<n-1, m)
			checkInterval(t, gr, b, m, 0, m-most, m, n, intervalCoins(gr, n, n))
			checkInterval(t, gr, b, m, gr.Q-1, m, m+most, n, intervalCoins(gr, n, n))
			checkInterval(t, gr, b, m, 1, m-most, m+most, n, repeated(0, 2*(4*n-1)))
			checkInterval(t, gr, b, gr.Q-1, 1, gr.Q-1-most, gr.Q-1, n, repeated(gr.Q-1, 2*(4*n-1)))
			checkInterval(t, gr, b, 0, 1, 0, most, n, intervalCoins(gr, 2*n, n))
		}
	}
}

// TestIntervalsWithOtherNumbersOfCoins takes one coin too many or too few for each half, and the coins of one half alone.
func TestIntervalsWithOtherNumbersOfCoins(t *testing.T) {
	for _, gr := range rangeGroups() {
		b := impl.Bases{H: gr.G}
		for _, n := range someBitCounts(gr) {
			right := 2 * (4*n - 1)
			for _, k := range []int{0, 1, right / 2, right - 2, right - 1, right + 1, right + 2, 2 * right, 1000} {
				checkNoInterval(t, gr, b, 1, 1, 1, 1, n, repeated(1, k))
			}
			checkInterval(t, gr, b, 1, 1, 1, 1, n, repeated(1, right))
		}
	}
}

// TestIntervalsOfTooManyBits takes numbers of bits for which 2^n is Q or more, more than MaxBitCount, or below 1.
func TestIntervalsOfTooManyBits(t *testing.T) {
	for _, gr := range append(allGroups(), edgeGroups...) {
		b := impl.Bases{H: gr.G}
		for n := mostBits(gr) + 1; n < maxBitCount+4; n++ {
			checkNoInterval(t, gr, b, 1, 1, 1, 1, n, intervalCoins(gr, 1, n))
			p := intervalProof{wantRange(gr, gr.G, 0, 1, n, repeated(1, 4*n-1)), wantRange(gr, gr.G, 0, gr.Q-1, n, repeated(1, 4*n-1))}
			is, ok := impl.VerifyInterval(gr, b, wantCommit(gr, gr.G, 1, 1), 1, 1, n, p.x, p.y)
			checkNone(t, fmt.Sprintf("VerifyInterval(%v) of %d bits", gr, n), is, ok)
		}
		for _, n := range []int{-1 << 62, -64, -1, 0, 62, 63, 64, 1 << 32, 1<<62 + 1} {
			checkNoInterval(t, gr, b, 1, 1, 1, 1, n, nil)
			checkNoInterval(t, gr, b, 1, 1, 1, 1, n, repeated(1, 6))
			is, ok := impl.VerifyInterval(gr, b, 1, 1, 1, n, impl.RangeProof{}, impl.RangeProof{})
			checkNone(t, fmt.Sprintf("VerifyInterval(%v) of %d bits", gr, n), is, ok)
		}
	}
}

// provenInterval is the statement that a commitment hides a number of an interval, with accepted proofs.
type provenInterval struct {
	gr impl.Group
	h  int
	c  int
	lo int
	hi int
	n  int
	p  intervalProof
}

// check verifies the proofs of a statement, which may be changed, and compares the verdict with the conditions.
func (s provenInterval) check(t *testing.T, change string) {
	t.Helper()
	got, ok := impl.VerifyInterval(s.gr, impl.Bases{H: s.h}, s.c, s.lo, s.hi, s.n, s.p.x, s.p.y)
	checkVerdict(t, fmt.Sprintf("VerifyInterval of %+v with %s", s, change), isIntervalProof(s.gr, s.h, s.c, s.lo, s.hi, s.n, s.p), got, ok)
}

// checkWrong fails unless the proofs of a changed statement are refused, with true.
func (s provenInterval) checkWrong(t *testing.T, change string) {
	t.Helper()
	got, ok := impl.VerifyInterval(s.gr, impl.Bases{H: s.h}, s.c, s.lo, s.hi, s.n, s.p.x, s.p.y)
	checkVerdict(t, fmt.Sprintf("VerifyInterval of %+v with %s", s, change), false, got, ok)
}

// someIntervals returns statements about intervals with their proofs.
func someIntervals(gr impl.Group) []provenInterval {
	var l []provenInterval
	for i, n := range someBitCounts(gr) {
		m, r, h := gr.Q/2, someResidues(gr.Q)[5+i], basesIn(gr)[3+i]
		lo, hi := max(0, m-1<<n+1), min(m+1, gr.Q-1)
		l = append(l, provenInterval{gr, h, wantCommit(gr, h, m, r), lo, hi, n, wantInterval(gr, h, m, r, lo, hi, n, intervalCoins(gr, i, n))})
	}
	return l
}

// TestIntervalProofsAreAccepted shows that the changed proofs are refused for the changes alone.
func TestIntervalProofsAreAccepted(t *testing.T) {
	for _, gr := range rangeGroups() {
		for _, s := range someIntervals(gr) {
			got, ok := impl.VerifyInterval(gr, impl.Bases{H: s.h}, s.c, s.lo, s.hi, s.n, s.p.x, s.p.y)
			checkVerdict(t, fmt.Sprintf("VerifyInterval of %+v", s), true, got, ok)
			checkVerdict(t, fmt.Sprintf("the reference of %+v", s), true, isIntervalProof(gr, s.h, s.c, s.lo, s.hi, s.n, s.p), true)
		}
	}
}

// TestChangedIntervals takes other bounds, commitments, bases H and numbers of bits with the same proofs.
func TestChangedIntervals(t *testing.T) {
	for _, gr := range rangeGroups() {
		for _, s := range someIntervals(gr) {
			for _, e := range append(someExponents(gr), (s.lo+1)%gr.Q, (s.hi+gr.Q-1)%gr.Q, s.hi, s.lo) {
				other := s
				other.lo = e
				if e != s.lo {
					other.checkWrong(t, "another least number")
				}
				other = s
				other.hi = e
				if e != s.hi {
					other.checkWrong(t, "another greatest number")
				}
			}
			for _, c := range append(someElements(gr)[:8], s.c*gr.G%gr.P, s.c*s.h%gr.P) {
				other := s
				other.c = c
				if c != s.c {
					other.checkWrong(t, "another commitment")
				}
			}
			for n := 1; n <= mostBits(gr); n++ {
				other := s
				other.n = n
				other.check(t, "another number of bits")
			}
			for _, h := range basesIn(gr)[:8] {
				other := s
				other.h = h
				other.check(t, "another base H")
				other = s
				other.gr.G = h
				other.check(t, "another generator")
			}
		}
	}
}

// TestChangedProofsOfIntervals exchanges the two proofs, takes one of them twice, and changes a component of one of them.
func TestChangedProofsOfIntervals(t *testing.T) {
	for _, gr := range rangeGroups() {
		for _, s := range someIntervals(gr) {
			x, y := s.p.x, s.p.y
			for _, p := range []intervalProof{{y, x}, {x, x}, {y, y}} {
				other := s
				other.p = p
				other.check(t, "other proofs")
			}
			for _, p := range []intervalProof{{}, {x: x}, {y: y}} {
				other := s
				other.p = p
				other.checkWrong(t, "a proof missing")
			}
			for i := range s.n {
				for _, bad := range changedRanges(gr, x, i) {
					other := s
					other.p = intervalProof{bad, y}
					other.checkWrong(t, "a change of the first proof")
				}
				for _, bad := range changedRanges(gr, y, i) {
					other := s
					other.p = intervalProof{x, bad}
					other.checkWrong(t, "a change of the second proof")
				}
			}
		}
	}
}

// changedRanges returns proofs that the proof of a range becomes by one change at bit i, none of which is right.
func changedRanges(gr impl.Group, x impl.RangeProof, i int) []impl.RangeProof {
	l := []impl.RangeProof{withProof(x, i, impl.Proof{}), {Bits: replaced(x.Bits, i, x.Bits[i]*gr.G%gr.P), Proofs: x.Proofs}, {Bits: replaced(x.Bits, i, 0), Proofs: x.Proofs}, {Bits: removed(x.Bits, i), Proofs: x.Proofs}, {Bits: x.Bits, Proofs: slices.Delete(slices.Clone(x.Proofs), i, i+1)}}
	for k := range 2 {
		p := x.Proofs[i]
		l = append(l,
			withProof(x, i, impl.Proof{Commits: replaced(p.Commits, k, p.Commits[k]*gr.G%gr.P), Challenges: p.Challenges, Responses: p.Responses}),
			withProof(x, i, impl.Proof{Commits: p.Commits, Challenges: replaced(p.Challenges, k, (p.Challenges[k]+1)%gr.Q), Responses: p.Responses}),
			withProof(x, i, impl.Proof{Commits: p.Commits, Challenges: p.Challenges, Responses: replaced(p.Responses, k, (p.Responses[k]+1)%gr.Q)}))
	}
	return l
}

// TestIntervalsAroundZero verifies proofs for bounds of which the first is the greater one. The document asks for the two ranges alone, which are those of m - lo and hi - m modulo Q.
func TestIntervalsAroundZero(t *testing.T) {
	for m, want := range map[int]bool{8: false, 9: true, 10: true, 0: true, 1: true, 2: true, 3: true, 4: false} {
		lo, hi := 9, 3
		d, e := (m-lo+11)%11, (hi-m+11)%11
		p := intervalProof{wantRange(exampleGroup, exampleBase, d%8, 5, 3, repeated(2, 11)), wantRange(exampleGroup, exampleBase, e%8, 6, 3, repeated(3, 11))}
		is, ok := impl.VerifyInterval(exampleGroup, impl.Bases{H: exampleBase}, wantCommit(exampleGroup, exampleBase, m, 5), lo, hi, 3, p.x, p.y)
		checkVerdict(t, fmt.Sprintf("VerifyInterval of %d from %d to %d", m, lo, hi), want, is, ok)
		checkNoInterval(t, exampleGroup, impl.Bases{H: exampleBase}, m, 5, lo, hi, 3, repeated(2, 22))
	}
}
