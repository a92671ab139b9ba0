package tests

import (
	"fmt"
	"math"
	"slices"
	"testing"

	"loop.example/g00878/impl"
)

// Promise 10 for proofs of ranges.

const maxBitCount = impl.MaxBitCount

// edgeGroups have orders next to a power of two, above it and below it, so that the greatest number of bits changes between them.
var edgeGroups = []impl.Group{{P: 103, Q: 17, G: 64}, {P: 311, Q: 31, G: 91}, {P: 509, Q: 127, G: 16}, {P: 655211, Q: 65521, G: 1024}, {P: 917519, Q: 65537, G: 16384}, {P: 1572853, Q: 131071, G: 4096}}

// rangeGroups are the groups in which there are ranges.
func rangeGroups() []impl.Group {
	return slices.DeleteFunc(append(slices.Clone(edgeGroups), allGroups()...), func(gr impl.Group) bool { return gr.Q == 2 })
}

// mostBits returns the greatest number of bits of a range in a group, or 0 if there is none.
func mostBits(gr impl.Group) int {
	n := 0
	for power := 2; power < gr.Q && n < maxBitCount; power *= 2 {
		n++
	}
	return n
}

// someBitCounts returns numbers of bits of ranges in a group, among them the least and the greatest one.
func someBitCounts(gr impl.Group) []int {
	most := mostBits(gr)
	return slices.Compact([]int{1, (most + 1) / 2, most})
}

// coinsIn returns n exponents, of which there may be more than someResidues returns.
func coinsIn(gr impl.Group, from int, n int) []int {
	return slices.Repeat(someResidues(gr.Q)[from:], 6)[:n]
}

// weightsOf returns the first n powers of 2.
func weightsOf(n int) []int {
	weights := []int{1}
	for len(weights) < n {
		weights = append(weights, 2*weights[len(weights)-1])
	}
	return weights[:n]
}

// bitsOf returns the n last bits of a number, the last one first.
func bitsOf(m int, n int) []int {
	bits := make([]int, n)
	for i := range bits {
		bits[i] = m % 2
		m /= 2
	}
	return bits
}

// wantBitExponents returns the exponents r(i), of which the first one is determined by the coins for the others.
func wantBitExponents(gr impl.Group, r int, others []int) []int {
	terms := []int{r}
	for _, other := range others {
		terms = append(terms, gr.Q-other)
	}
	return append([]int{wantDot(weightsOf(len(terms)), terms, gr.Q)}, others...)
}

// wantRange returns the proof of a range.
func wantRange(gr impl.Group, h int, m int, r int, n int, coins []int) impl.RangeProof {
	var x impl.RangeProof
	rs, bits := wantBitExponents(gr, r, coins[:n-1]), bitsOf(m, n)
	for i, bit := range bits {
		x.Bits = append(x.Bits, wantCommit(gr, h, bit, rs[i]))
		x.Proofs = append(x.Proofs, wantBit(gr, h, bit, rs[i], coins[n-1+3*i:][:3]))
	}
	return x
}

// isRangeProof reports whether a proof of a range is right.
func isRangeProof(gr impl.Group, h int, c int, n int, x impl.RangeProof) bool {
	if len(x.Bits) != n || len(x.Proofs) != n || !haveForm(gr, impl.Proof{Commits: x.Bits}, n, 0, 0) {
		return false
	}
	for i, p := range x.Proofs {
		if !isBitProof(gr, h, x.Bits[i], p) {
			return false
		}
	}
	return wantProduct(gr, x.Bits, weightsOf(n)) == c
}

// checkRangeProof fails unless a call returned the wanted proof and true.
func checkRangeProof(t *testing.T, name string, want impl.RangeProof, got impl.RangeProof, ok bool) {
	t.Helper()
	if !ok || !same(got, want) {
		t.Errorf("%s = %v, %v; want %v, true", name, got, ok, want)
	}
}

func TestRangeConstants(t *testing.T) {
	if maxBitCount != 16 {
		t.Error("MaxBitCount is", maxBitCount)
	}
}

func TestCoinsForRange(t *testing.T) {
	for n := -100; n < 200; n++ {
		got, ok := impl.CoinsForRange(n)
		if n < 1 || n > 16 {
			checkNoInt(t, fmt.Sprintf("CoinsForRange(%d)", n), got, ok)
		} else {
			checkInt(t, fmt.Sprintf("CoinsForRange(%d)", n), 4*n-1, got, ok)
		}
	}
	for _, n := range []int{math.MinInt, math.MinInt + 1, -1 << 62, 1<<60 + 1, 1 << 62, 1<<62 + 1, math.MaxInt} {
		got, ok := impl.CoinsForRange(n)
		checkNoInt(t, fmt.Sprintf("CoinsForRange(%d)", n), got, ok)
	}
	for n, want := range map[int]int{1: 3, 2: 7, 3: 11, 16: 63} {
		got, ok := impl.CoinsForRange(n)
		checkInt(t, fmt.Sprintf("CoinsForRange(%d)", n), want, got, ok)
	}
}

func TestProveRangeExamples(t *testing.T) {
	for _, c := range []struct {
		gr      impl.Group
		h, m, r int
		n       int
		coins   []int
		c       int
		want    impl.RangeProof
	}{
		{exampleGroup, exampleBase, 5, 3, 3, []int{1, 2, 3, 4, 5, 6, 7, 8, 9, 10, 0}, 13, impl.RangeProof{Bits: []int{1, 3, 18}, Proofs: []impl.Proof{
			proofOf([]int{13, 4}, []int{4, 3}, []int{5, 4}), proofOf([]int{16, 16}, []int{7, 7}, []int{2, 8}), proofOf([]int{18, 18}, []int{10, 2}, []int{0, 2})}}},
		{exampleGroup, exampleBase, 0, 0, 3, []int{10, 10, 0, 1, 2, 3, 4, 5, 6, 7, 8}, 1, impl.RangeProof{Bits: []int{16, 8, 8}, Proofs: []impl.Proof{
			proofOf([]int{1, 4}, []int{0, 1}, []int{0, 2}), proofOf([]int{4, 12}, []int{10, 4}, []int{4, 5}), proofOf([]int{16, 18}, []int{4, 7}, []int{2, 8})}}},
		{exampleGroup, exampleBase, 7, 10, 3, repeated(0, 11), 12, impl.RangeProof{Bits: []int{16, 2, 2}, Proofs: []impl.Proof{
			proofOf([]int{1, 1}, []int{0, 10}, []int{0, 1}), proofOf([]int{1, 1}, []int{0, 7}, []int{0, 0}), proofOf([]int{1, 1}, []int{0, 7}, []int{0, 0})}}},
		{exampleGroup, exampleBase, 1, 4, 1, []int{2, 5, 7}, 1, impl.RangeProof{Bits: []int{1}, Proofs: []impl.Proof{proofOf([]int{2, 9}, []int{5, 7}, []int{7, 8})}}},
		{exampleGroup, 2, 2, 1, 2, []int{10, 9, 8, 7, 6, 5, 4}, 8, impl.RangeProof{Bits: []int{8, 1}, Proofs: []impl.Proof{
			proofOf([]int{6, 4}, []int{6, 8}, []int{5, 7}), proofOf([]int{16, 18}, []int{5, 6}, []int{4, 0})}}},
		{impl.Group{P: 7, Q: 3, G: 2}, 4, 1, 2, 1, []int{1, 2, 0}, 4, impl.RangeProof{Bits: []int{4}, Proofs: []impl.Proof{proofOf([]int{4, 4}, []int{2, 2}, []int{0, 2})}}},
		{topGroup, topBase, 2, 999999190, 2, []int{500000000, 123456789, 987654321, 5, 999999190, 0, 77}, 649012773, impl.RangeProof{Bits: []int{1924586964, 1013046283}, Proofs: []impl.Proof{
			proofOf([]int{1061472685, 784000021}, []int{768360935, 987654321}, []int{750595432, 5}), proofOf([]int{1688057993, 665562793}, []int{0, 696063097}, []int{77, 57750469})}}},
	} {
		name := fmt.Sprintf("Range(%v, %d, %d, %d, %d, %v)", c.gr, c.h, c.m, c.r, c.n, c.coins)
		got, ok := impl.ProveRange(c.gr, impl.Bases{H: c.h}, c.m, c.r, c.n, c.coins)
		checkRangeProof(t, "Prove"+name, c.want, got, ok)
		accepted, ok := impl.VerifyRange(c.gr, impl.Bases{H: c.h}, c.c, c.n, c.want)
		checkVerdict(t, "Verify"+name, true, accepted, ok)
	}
}

// checkRange compares the proof of a range with the expected one, combines its Bits to the commitment, and verifies it for this.
func checkRange(t *testing.T, gr impl.Group, b impl.Bases, m int, r int, n int, coins []int) {
	t.Helper()
	name := fmt.Sprintf("ProveRange(%v, %v, %d, %d, %d, %v)", gr, b, m, r, n, coins)
	x, ok := impl.ProveRange(gr, b, m, r, n, coins)
	checkRangeProof(t, name, wantRange(gr, b.H, m, r, n, coins), x, ok)
	c, _ := impl.Commit(gr, b, m, r)
	combined, ok := impl.CombineCommits(gr, x.Bits, weightsOf(n))
	checkInt(t, fmt.Sprint("CombineCommits of ", name), c, combined, ok)
	accepted, ok := impl.VerifyRange(gr, b, c, n, x)
	checkVerdict(t, fmt.Sprint("VerifyRange of ", name), true, accepted, ok)
}

// TestRangesOfSmallGroups takes ranges of one bit with all r and all coins, and ranges of two bits with all r and all coins that are exponents of H.
func TestRangesOfSmallGroups(t *testing.T) {
	for _, gr := range smallGroups() {
		if gr.Q != 3 && gr.Q != 5 {
			continue
		}
		for _, h := range elementsIn(gr)[1:] {
			for _, l := range listsIn(gr.Q, 4) {
				checkRange(t, gr, impl.Bases{H: h}, 0, l[0], 1, l[1:])
				checkRange(t, gr, impl.Bases{H: h}, 1, l[0], 1, l[1:])
			}
			if gr.Q == 3 {
				continue
			}
			for i, l := range listsIn(gr.Q, 2) {
				for m := range 4 {
					checkRange(t, gr, impl.Bases{H: h}, m, l[0], 2, append([]int{l[1]}, coinsIn(gr, i, 6)...))
				}
			}
		}
	}
}

// TestAllNumbersOfSmallRanges takes all numbers of ranges of up to five bits.
func TestAllNumbersOfSmallRanges(t *testing.T) {
	for i, gr := range rangeGroups() {
		for n := 1; n <= min(mostBits(gr), 5); n++ {
			for m := range 1 << n {
				checkRange(t, gr, impl.Bases{H: basesIn(gr)[i%20]}, m, someResidues(gr.Q)[m], n, coinsIn(gr, m, 4*n-1))
			}
		}
	}
}

// someNumbers returns numbers of n bits: the least, the greatest and others.
func someNumbers(n int) []int {
	most := 1 << n
	return []int{0, 1, most / 2, most - 1, most / 3, most - 1 - most/3}
}

// TestRangesOfAllGroups takes coins of 0 and the greatest ones, too, for which r minus the sum is negative.
func TestRangesOfAllGroups(t *testing.T) {
	for _, gr := range rangeGroups() {
		for i, b := range someBases(gr) {
			for _, n := range someBitCounts(gr) {
				for k, m := range someNumbers(n) {
					r := someExponents(gr)[(i+k)%7]
					checkRange(t, gr, b, m, r, n, coinsIn(gr, 2*i+k, 4*n-1))
					checkRange(t, gr, b, m, 0, n, repeated(gr.Q-1, 4*n-1))
					checkRange(t, gr, b, m, r, n, repeated(0, 4*n-1))
				}
			}
		}
	}
}

// TestRangesOfAllLengths takes each number of bits.
func TestRangesOfAllLengths(t *testing.T) {
	for i, gr := range rangeGroups() {
		for n := 1; n <= mostBits(gr); n++ {
			b := impl.Bases{H: basesIn(gr)[i%10]}
			checkRange(t, gr, b, 1<<n-1, gr.Q-1, n, coinsIn(gr, n, 4*n-1))
			checkRange(t, gr, b, (1<<n)/3, n%gr.Q, n, coinsIn(gr, 3*n, 4*n-1))
		}
	}
}

// TestFirstExponentsOfRanges opens the first of the Bits with the exponent that the coins for the others leave.
func TestFirstExponentsOfRanges(t *testing.T) {
	for _, c := range []struct{ r, first, second, want int }{{0, 1, 0, 9}, {0, 0, 1, 7}, {0, 10, 10, 6}, {0, 1, 1, 5}, {10, 1, 2, 0}, {3, 1, 2, 4}, {1, 0, 0, 1}, {6, 1, 1, 0}, {5, 1, 1, 10}} {
		for m := range 8 {
			x, ok := impl.ProveRange(exampleGroup, impl.Bases{H: exampleBase}, m, c.r, 3, append([]int{c.first, c.second}, repeated(1, 9)...))
			if !ok || len(x.Bits) != 3 {
				t.Fatalf("ProveRange of %d with %v = %v, %v", m, c, x, ok)
			}
			for i, r := range []int{c.want, c.first, c.second} {
				is, ok := impl.CheckOpening(exampleGroup, impl.Bases{H: exampleBase}, x.Bits[i], m>>i&1, r)
				checkVerdict(t, fmt.Sprintf("CheckOpening of the bit %d of %d with %v", i, m, c), true, is, ok)
			}
		}
	}
}

// TestProofsOfRangesAreThoseOfBits takes the coins of the bits one after the other.
func TestProofsOfRangesAreThoseOfBits(t *testing.T) {
	for _, gr := range rangeGroups() {
		for i, b := range someBases(gr) {
			n := mostBits(gr)
			coins, m := coinsIn(gr, i, 4*n-1), (1<<n)/3
			x, ok := impl.ProveRange(gr, b, m, 1, n, coins)
			if !ok || len(x.Bits) != n || len(x.Proofs) != n {
				t.Fatalf("ProveRange(%v, %v, %d) of %d bits = %v, %v", gr, b, m, n, x, ok)
			}
			rs := wantBitExponents(gr, 1, coins[:n-1])
			for k, bit := range bitsOf(m, n) {
				p, ok := impl.ProveBit(gr, b, bit, rs[k], coins[n-1+3*k:n+2+3*k])
				checkProof(t, fmt.Sprintf("ProveBit(%v, %v) of the bit %d of %d", gr, b, k, m), x.Proofs[k], p, ok)
				is, ok := impl.VerifyBit(gr, b, x.Bits[k], p)
				checkVerdict(t, fmt.Sprintf("VerifyBit(%v, %v) of the bit %d of %d", gr, b, k, m), true, is, ok)
			}
		}
	}
}

// TestNumbersOutsideRanges takes numbers below and above a range, some of which have the same bits.
func TestNumbersOutsideRanges(t *testing.T) {
	for _, gr := range rangeGroups() {
		for _, b := range someBases(gr)[:3] {
			for _, n := range someBitCounts(gr) {
				most := 1 << n
				for _, m := range append(notExponents(gr), -most, 1-most, most, most+1, 2*most-1, 2*most, gr.Q-1, gr.Q+most-1) {
					if 0 <= m && m < most {
						continue
					}
					x, ok := impl.ProveRange(gr, b, m, 1, n, repeated(1, 4*n-1))
					checkNone(t, fmt.Sprintf("ProveRange(%v, %v, %d) of %d bits", gr, b, m, n), x, ok)
				}
			}
		}
	}
}

// TestRangesOfTooManyBits takes numbers of bits for which 2^n is Q or more, and more than MaxBitCount, with proofs that are right otherwise.
func TestRangesOfTooManyBits(t *testing.T) {
	for _, gr := range append(allGroups(), edgeGroups...) {
		for n := mostBits(gr) + 1; n < maxBitCount+4; n++ {
			b := impl.Bases{H: gr.G}
			for _, m := range []int{0, 1} {
				x, ok := impl.ProveRange(gr, b, m, 1, n, repeated(1, 4*n-1))
				checkNone(t, fmt.Sprintf("ProveRange(%v, %v, %d) of %d bits", gr, b, m, n), x, ok)
				is, ok := impl.VerifyRange(gr, b, wantCommit(gr, gr.G, m, 1), n, wantRange(gr, gr.G, m, 1, n, repeated(1, 4*n-1)))
				checkNone(t, fmt.Sprintf("VerifyRange(%v, %v, %d) of %d bits", gr, b, m, n), is, ok)
			}
		}
	}
}

// TestGreatestBitCounts compares the greatest numbers of bits with those that follow from the orders.
func TestGreatestBitCounts(t *testing.T) {
	for _, c := range []struct {
		gr   impl.Group
		most int
	}{
		{impl.Group{P: 3, Q: 2, G: 2}, 0}, {impl.Group{P: 7, Q: 3, G: 2}, 1}, {impl.Group{P: 11, Q: 5, G: 3}, 2}, {impl.Group{P: 29, Q: 7, G: 16}, 2}, {exampleGroup, 3},
		{edgeGroups[0], 4}, {edgeGroups[1], 4}, {edgeGroups[2], 6}, {edgeGroups[3], 15}, {edgeGroups[4], 16}, {edgeGroups[5], 16}, {topGroup, 16},
	} {
		for n := 1; n <= maxBitCount+1; n++ {
			x, ok := impl.ProveRange(c.gr, impl.Bases{H: c.gr.G}, 0, 0, n, repeated(0, 4*n-1))
			if ok != (n <= c.most) || len(x.Bits) > 0 != ok {
				t.Errorf("ProveRange(%v) of %d bits = %v, %v", c.gr, n, x, ok)
			}
		}
	}
}

// TestRangesOfBadBitCounts takes numbers of bits below 1 or far too great ones, for which 4 n - 1 or 2^n would not fit in an int.
func TestRangesOfBadBitCounts(t *testing.T) {
	for _, gr := range rangeGroups() {
		b, x := impl.Bases{H: gr.G}, wantRange(gr, gr.G, 1, 1, 1, repeated(1, 3))
		for _, n := range []int{math.MinInt, -1 << 62, -64, -1, 0, 62, 63, 64, 65, 1 << 32, 1<<62 + 1, math.MaxInt} {
			for _, coins := range [][]int{nil, repeated(1, 3), repeated(1, 7), repeated(1, 63)} {
				got, ok := impl.ProveRange(gr, b, 0, 1, n, coins)
				checkNone(t, fmt.Sprintf("ProveRange(%v) of %d bits", gr, n), got, ok)
			}
			for _, other := range []impl.RangeProof{x, {}} {
				is, ok := impl.VerifyRange(gr, b, 1, n, other)
				checkNone(t, fmt.Sprintf("VerifyRange(%v, %v) of %d bits", gr, other, n), is, ok)
			}
		}
	}
}

// TestRangesIgnoreHs makes and verifies proofs with the same H and other Hs.
func TestRangesIgnoreHs(t *testing.T) {
	for _, gr := range rangeGroups() {
		want, _ := impl.ProveRange(gr, impl.Bases{H: gr.G}, 1, 0, 1, []int{1, 1, 0})
		for _, b := range someBases(gr) {
			other := impl.Bases{H: gr.G, Hs: b.Hs}
			x, ok := impl.ProveRange(gr, other, 1, 0, 1, []int{1, 1, 0})
			checkRangeProof(t, fmt.Sprintf("ProveRange in %v with the bases %v", gr, b.Hs), want, x, ok)
			got, ok := impl.VerifyRange(gr, other, gr.G, 1, want)
			checkVerdict(t, fmt.Sprintf("VerifyRange in %v with the bases %v", gr, b.Hs), true, got, ok)
		}
	}
}
