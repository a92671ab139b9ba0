package tests

import (
	"fmt"
	"slices"
	"testing"

	"loop.example/g00878/impl"
)

// Promise 11 for AreConsistent and ShareCounts: shares of a dealing are consistent, and fewer than the threshold give nothing.

// areValues reports whether the integers are the values at 1, 2 and so on of a polynomial with t coefficients: their differences, those of these, and so on, t times, are 0. No interpolation is needed for that.
func areValues(q int, t int, shares []int) bool {
	l := slices.Clone(shares)
	for range t {
		if len(l) == 0 {
			return true
		}
		for i := range l[1:] {
			l[i] = (l[i+1] - l[i] + q) % q
		}
		l = l[:len(l)-1]
	}
	return !slices.ContainsFunc(l, func(x int) bool { return x != 0 })
}

// checkConsistent compares AreConsistent with the differences of the shares.
func checkConsistent(t *testing.T, gr impl.Group, k int, shares []int) {
	t.Helper()
	is, ok := impl.AreConsistent(gr, k, shares)
	checkVerdict(t, fmt.Sprintf("AreConsistent(%v, %d, %v)", gr, k, shares), areValues(gr.Q, k, shares), is, ok)
}

func TestAreConsistentExamples(t *testing.T) {
	for _, c := range []struct {
		t      int
		shares []int
		want   bool
	}{
		{2, []int{8, 2, 7}, true}, {2, []int{8, 3, 7}, false}, {3, []int{8, 3, 7}, true}, {1, []int{8, 2, 7}, false}, {2, []int{8, 2, 7, 1, 6, 0, 5}, true}, {2, []int{8, 2, 7, 1, 6, 0, 6}, false}, {2, []int{9, 2, 7, 1, 6, 0, 5}, false},
		{1, []int{4}, true}, {1, []int{4, 4}, true}, {1, []int{4, 5}, false}, {2, []int{4, 5}, true}, {7, []int{4}, true}, {1, []int{0, 0, 0, 0, 0, 0, 0}, true}, {1, []int{0, 0, 0, 0, 0, 0, 1}, false}, {6, []int{0, 0, 0, 0, 0, 0, 1}, false}, {7, []int{0, 0, 0, 0, 0, 0, 1}, true},
		{3, []int{1, 4, 9, 5, 3, 3, 5}, true}, {2, []int{1, 4, 9, 5, 3, 3, 5}, false}, {3, []int{1, 4, 9, 5, 3, 3, 6}, false},
	} {
		is, ok := impl.AreConsistent(exampleGroup, c.t, c.shares)
		checkVerdict(t, fmt.Sprintf("AreConsistent(%d, %v)", c.t, c.shares), c.want, is, ok)
		checkVerdict(t, fmt.Sprintf("the reference of %d, %v", c.t, c.shares), c.want, areValues(11, c.t, c.shares), true)
	}
}

// TestAreConsistentOfAllShares takes all lists of up to three shares and all thresholds.
func TestAreConsistentOfAllShares(t *testing.T) {
	for _, gr := range []impl.Group{exampleGroup, midGroups[0], midGroups[2]} {
		for _, shares := range smallLists(gr.Q, 3)[1:] {
			for k := 1; k <= maxTrustees; k++ {
				checkConsistent(t, gr, k, shares)
			}
		}
	}
}

// TestAreConsistentOfAllGroups takes the values of polynomials with other numbers of coefficients, and these with one changed share.
func TestAreConsistentOfAllGroups(t *testing.T) {
	for _, gr := range shareGroups() {
		for coefs := 1; coefs <= maxTrustees; coefs++ {
			for _, f := range someSecretPolys(gr, coefs) {
				for n := 1; n <= maxTrustees; n++ {
					shares := wantValues(gr.Q, f, firstTrustees(n))
					for k := 1; k <= maxTrustees; k++ {
						checkConsistent(t, gr, k, shares)
						checkConsistent(t, gr, k, replaced(shares, k%n, (shares[k%n]+1)%gr.Q))
					}
				}
			}
		}
	}
}

// TestAreConsistentOfTheThreshold takes as many shares as t, which are always consistent, and one more, for which exactly one exponent is.
func TestAreConsistentOfTheThreshold(t *testing.T) {
	for _, gr := range shareGroups() {
		for k := 1; k <= maxTrustees; k++ {
			for from := range 4 {
				f := someResidues(gr.Q)[from : from+k]
				is, ok := impl.AreConsistent(gr, k, f)
				checkVerdict(t, fmt.Sprintf("AreConsistent(%v, %d, %v)", gr, k, f), true, is, ok)
				if k == maxTrustees {
					continue
				}
				shares := wantValues(gr.Q, f, firstTrustees(k+1))
				for _, delta := range []int{0, 1, gr.Q / 2, gr.Q - 1} {
					l := replaced(shares, k, (shares[k]+delta)%gr.Q)
					is, ok := impl.AreConsistent(gr, k, l)
					checkVerdict(t, fmt.Sprintf("AreConsistent(%v, %d, %v)", gr, k, l), delta == 0, is, ok)
				}
			}
		}
	}
}

// TestAreConsistentOfOtherNumbers takes other thresholds and numbers of shares.
func TestAreConsistentOfOtherNumbers(t *testing.T) {
	for _, gr := range shareGroups() {
		for _, k := range []int{-1 << 63, -1, 0, 1, 2, 6, 7, 8, 9, maxList, 1 << 32, 1<<63 - 1} {
			for _, n := range []int{0, 1, 2, 6, 7, 8, 9, maxList, maxList + 1, 1000} {
				is, ok := impl.AreConsistent(gr, k, repeated(1, n))
				if want := 1 <= k && k <= maxTrustees && 1 <= n && n <= maxTrustees; ok != want || is != want {
					t.Errorf("AreConsistent(%v, %d) of %d shares = %v, %v", gr, k, n, is, ok)
				}
			}
		}
	}
}

func TestAreConsistentOfBadShares(t *testing.T) {
	for _, gr := range shareGroups() {
		for k := 1; k <= maxTrustees; k++ {
			shares := wantValues(gr.Q, someSecretPolys(gr, k)[0], firstTrustees(maxTrustees))
			for i := range shares {
				for _, x := range append(notExponents(gr), shares[i]+gr.Q, shares[i]-gr.Q) {
					is, ok := impl.AreConsistent(gr, k, replaced(shares, i, x))
					checkNone(t, fmt.Sprintf("AreConsistent(%v, %d, %v) with %d at %d", gr, k, shares, x, i), is, ok)
				}
			}
		}
	}
}

// countedShareGroups are groups of all orders for which polynomials are counted, also with a large P.
var countedShareGroups = []impl.Group{exampleGroup, {P: 23, Q: 11, G: 18}, largeGroups[5], midGroups[0], midGroups[1], midGroups[2], {P: 47, Q: 23, G: 2}}

// countsByShares returns, for each list of n shares as a text, the numbers of polynomials with k coefficients for each secret. All polynomials are taken once, not once for each list.
func countsByShares(q int, k int, n int) map[string][]int {
	counts := map[string][]int{}
	for _, f := range listsIn(q, k) {
		text := fmt.Sprint(wantValues(q, f, firstTrustees(n)))
		if counts[text] == nil {
			counts[text] = make([]int, q)
		}
		counts[text][f[0]]++
	}
	return counts
}

// checkCounts compares the counts for known shares with those of all polynomials.
func checkCounts(t *testing.T, gr impl.Group, k int, known []int, counts map[string][]int) {
	t.Helper()
	want := counts[fmt.Sprint(known)]
	if want == nil {
		want = make([]int, gr.Q)
	}
	got, ok := impl.ShareCounts(gr, k, known)
	checkList(t, fmt.Sprintf("ShareCounts(%v, %d, %v)", gr, k, known), want, got, ok)
}

func TestShareCountsExamples(t *testing.T) {
	at := func(secret int) []int { return replaced(repeated(0, 11), secret, 1) }
	for _, c := range []struct {
		t           int
		known, want []int
	}{
		{1, nil, repeated(1, 11)}, {1, []int{4}, at(4)}, {1, []int{4, 4}, at(4)}, {1, []int{4, 5}, repeated(0, 11)}, {1, repeated(10, 7), at(10)},
		{2, nil, repeated(11, 11)}, {2, []int{8}, repeated(1, 11)}, {2, []int{8, 2}, at(3)}, {2, []int{8, 2, 7}, at(3)}, {2, []int{8, 2, 6}, repeated(0, 11)}, {2, []int{8, 2, 7, 1, 6, 0, 5}, at(3)}, {2, []int{8, 2, 7, 1, 6, 0, 6}, repeated(0, 11)},
		{3, nil, repeated(121, 11)}, {3, []int{8}, repeated(11, 11)}, {3, []int{8, 2}, repeated(1, 11)}, {3, []int{8, 2, 6}, at(2)}, {3, []int{8, 2, 7, 1}, at(3)}, {3, []int{8, 2, 7, 0}, repeated(0, 11)},
	} {
		got, ok := impl.ShareCounts(exampleGroup, c.t, c.known)
		checkList(t, fmt.Sprintf("ShareCounts(%d, %v)", c.t, c.known), c.want, got, ok)
	}
	got, ok := impl.ShareCounts(impl.Group{P: 47, Q: 23, G: 2}, 3, []int{1, 4, 9, 16, 2, 13, 3})
	checkList(t, "ShareCounts of squares", replaced(repeated(0, 23), 0, 1), got, ok)
}

// TestShareCountsOfAllShares takes all lists of known shares up to two, and of three for the least order.
func TestShareCountsOfAllShares(t *testing.T) {
	for _, gr := range []impl.Group{exampleGroup, midGroups[0]} {
		for k := 1; k <= 3; k++ {
			for n := range 4 {
				if n == 3 && gr != exampleGroup {
					continue
				}
				counts := countsByShares(gr.Q, k, n)
				for _, known := range listsIn(gr.Q, n) {
					checkCounts(t, gr, k, known, counts)
				}
			}
		}
	}
}

// TestShareCountsOfAllOrders takes up to MaxTrustees known shares that fit a polynomial with so many coefficients, one coefficient more or less, and none.
func TestShareCountsOfAllOrders(t *testing.T) {
	for _, gr := range countedShareGroups {
		r := someResidues(gr.Q)
		for k := 1; k <= 3; k++ {
			for n := range maxTrustees + 1 {
				counts := countsByShares(gr.Q, k, n)
				for _, f := range [][]int{r[:1], r[4:5], r[2:4], r[5:7], r[7:10], r[11:15], r[3:10], repeated(gr.Q-1, 3), {0}} {
					checkCounts(t, gr, k, wantValues(gr.Q, f, firstTrustees(n)), counts)
				}
				checkCounts(t, gr, k, r[20:20+n], counts)
				checkCounts(t, gr, k, repeated(0, n), counts)
			}
		}
	}
}

// TestShareCountsHideTheSecret shows that fewer shares than the threshold fit all secrets equally often, and that as many fit one alone.
func TestShareCountsHideTheSecret(t *testing.T) {
	for _, gr := range countedShareGroups {
		for k := 1; k <= 3; k++ {
			for i, f := range someSecretPolys(gr, k) {
				shares := wantDealing(gr, f, maxTrustees).Shares
				for n := range maxTrustees + 1 {
					want := repeated(1, gr.Q)
					for range k - 1 - n {
						want = repeated(want[0]*gr.Q, gr.Q)
					}
					if n >= k {
						want = replaced(repeated(0, gr.Q), f[0], 1)
					}
					got, ok := impl.ShareCounts(gr, k, shares[:n])
					checkList(t, fmt.Sprintf("ShareCounts(%v, %d) of %d shares of polynomial %d", gr, k, n, i), want, got, ok)
				}
			}
		}
	}
}

// TestShareCountsOfOtherNumbers takes other thresholds, numbers of shares and orders.
func TestShareCountsOfOtherNumbers(t *testing.T) {
	for _, gr := range countedShareGroups {
		for _, k := range []int{-1 << 63, -1, 0, 1, 2, 3, 4, 5, 7, 8, 1 << 32, 1<<63 - 1} {
			for _, n := range []int{0, 1, 3, 6, 7, 8, 9, maxList, maxList + 1, 1000} {
				got, ok := impl.ShareCounts(gr, k, repeated(1, n))
				if want := 1 <= k && k <= 3 && n <= maxTrustees; ok != want || (len(got) == gr.Q) != want || !want && len(got) > 0 {
					t.Errorf("ShareCounts(%v, %d) of %d shares = %v, %v", gr, k, n, got, ok)
				}
			}
		}
	}
	for _, gr := range append(shareGroups(), noShareGroups...) {
		for k := 1; k <= 3; k++ {
			got, ok := impl.ShareCounts(gr, k, []int{1, 0})
			if want := maxTrustees < gr.Q && gr.Q <= 23; ok != want || len(got) > 0 != want {
				t.Errorf("ShareCounts(%v, %d) = %v, %v", gr, k, got, ok)
			}
		}
	}
}

func TestShareCountsOfBadShares(t *testing.T) {
	for _, gr := range countedShareGroups {
		for k := 1; k <= 3; k++ {
			for _, n := range []int{1, 2, maxTrustees} {
				for i := range n {
					for _, x := range append(notExponents(gr), 1+gr.Q, 1-gr.Q) {
						got, ok := impl.ShareCounts(gr, k, replaced(repeated(1, n), i, x))
						checkNoList(t, fmt.Sprintf("ShareCounts(%v, %d) of %d shares with %d at %d", gr, k, n, x, i), got, ok)
					}
				}
			}
		}
	}
}
