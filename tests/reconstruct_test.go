package tests

import (
	"fmt"
	"slices"
	"testing"

	"loop.example/g00878/impl"
)

// Promise 11 for Reconstruct: enough right shares give the secret, fewer give nothing, and wrong ones are ignored.

// checkSecret fails unless the secret is reconstructed from shares.
func checkSecret(t *testing.T, gr impl.Group, commits []int, indices []int, shares []int, want int) {
	t.Helper()
	got, ok := impl.Reconstruct(gr, commits, indices, shares)
	checkInt(t, fmt.Sprintf("Reconstruct(%v, %v, %v, %v)", gr, commits, indices, shares), want, got, ok)
}

// checkNoSecret fails unless nothing is reconstructed from shares.
func checkNoSecret(t *testing.T, gr impl.Group, commits []int, indices []int, shares []int) {
	t.Helper()
	got, ok := impl.Reconstruct(gr, commits, indices, shares)
	checkNoInt(t, fmt.Sprintf("Reconstruct(%v, %v, %v, %v)", gr, commits, indices, shares), got, ok)
}

// checkReconstruct fails unless a secret is reconstructed exactly if there are enough right shares.
func checkReconstruct(t *testing.T, gr impl.Group, commits []int, indices []int, shares []int, secret int, right int) {
	t.Helper()
	if right >= len(commits) {
		checkSecret(t, gr, commits, indices, shares, secret)
	} else {
		checkNoSecret(t, gr, commits, indices, shares)
	}
}

// sharesAt returns the shares of some trustees among those of all.
func sharesAt(all []int, indices []int) []int {
	l := make([]int, len(indices))
	for k, i := range indices {
		l[k] = all[i-1]
	}
	return l
}

// trusteesIn returns the trustees whose bits in a number are 1.
func trusteesIn(which int) []int {
	var l []int
	for i := range maxTrustees {
		if which>>i&1 == 1 {
			l = append(l, i+1)
		}
	}
	return l
}

func TestReconstructExamples(t *testing.T) {
	for _, c := range []struct {
		commits, indices, shares []int
		want                     int
	}{
		{[]int{8, 9}, []int{1, 3}, []int{8, 7}, 3}, {[]int{8, 9}, []int{3, 1}, []int{7, 8}, 3}, {[]int{8, 9}, []int{1, 2, 3}, []int{8, 2, 7}, 3}, {[]int{8, 9}, []int{6, 7}, []int{0, 5}, 3},
		{[]int{8, 9}, []int{1, 2, 3}, []int{8, 3, 7}, 3}, {[]int{8, 9}, []int{2, 1, 3}, []int{3, 8, 7}, 3}, {[]int{8, 9}, []int{1, 3, 2}, []int{8, 7, 3}, 3}, {[]int{8, 9}, []int{4, 5, 6, 7}, []int{2, 6, 1, 5}, 3},
		{[]int{8}, []int{4}, []int{3}, 3}, {[]int{8}, []int{7, 2}, []int{0, 3}, 3}, {[]int{1}, []int{1}, []int{0}, 0}, {[]int{1, 1, 1}, []int{5, 1, 2}, []int{0, 0, 0}, 0},
		{[]int{2, 3, 4}, []int{1, 2, 3}, []int{0, 3, 10}, 1}, {[]int{2, 3, 4}, []int{7, 5, 6}, []int{1, 3, 0}, 1}, {[]int{2, 3, 4}, []int{6, 4, 2, 7, 1}, []int{0, 3, 3, 1, 0}, 1},
		{[]int{1, 1, 1, 1, 1, 1, 2}, []int{1, 2, 3, 4, 5, 6, 7}, []int{1, 9, 3, 4, 5, 5, 4}, 0},
	} {
		checkSecret(t, exampleGroup, c.commits, c.indices, c.shares, c.want)
	}
	for _, c := range []struct{ commits, indices, shares []int }{
		{[]int{8, 9}, nil, nil}, {[]int{8, 9}, []int{1}, []int{8}}, {[]int{8, 9}, []int{1, 3}, []int{7, 8}}, {[]int{8, 9}, []int{1, 3}, []int{8, 8}}, {[]int{8, 9}, []int{1, 2, 3}, []int{7, 3, 7}}, {[]int{8, 9}, []int{1, 1}, []int{8, 8}},
		{[]int{8, 9}, []int{1, 1, 3}, []int{8, 8, 7}}, {[]int{8, 9}, []int{1, 3}, []int{8}}, {[]int{8, 9}, []int{1}, []int{8, 7}}, {[]int{8, 9}, []int{0, 3}, []int{3, 7}}, {[]int{8, 9}, []int{1, 8}, []int{8, 10}}, {[]int{1, 1, 1, 1, 1, 1, 2}, []int{1, 2, 3, 4, 5, 6}, []int{1, 9, 3, 4, 5, 5}},
	} {
		checkNoSecret(t, exampleGroup, c.commits, c.indices, c.shares)
	}
}

// TestReconstructFromAllSubsets takes the right shares of all sets of trustees for all thresholds.
func TestReconstructFromAllSubsets(t *testing.T) {
	for _, gr := range shareGroups() {
		for k := 1; k <= maxTrustees; k++ {
			f := someSecretPolys(gr, k)[k%2]
			d := wantDealing(gr, f, maxTrustees)
			for which := range 1 << maxTrustees {
				indices := trusteesIn(which)
				checkReconstruct(t, gr, d.Commits, indices, sharesAt(d.Shares, indices), f[0], len(indices))
			}
		}
	}
}

// TestReconstructWithAllWrongShares takes all sets of trustees, of which all sets have wrong shares.
func TestReconstructWithAllWrongShares(t *testing.T) {
	for k := 1; k <= maxTrustees; k++ {
		f := someSecretPolys(exampleGroup, k)[1]
		d := wantDealing(exampleGroup, f, maxTrustees)
		for wrong := range 1 << maxTrustees {
			shares, _ := withWrong(exampleGroup, d.Shares, wrong, 1+wrong%10)
			for which := range 1 << maxTrustees {
				indices := trusteesIn(which)
				checkReconstruct(t, exampleGroup, d.Commits, indices, sharesAt(shares, indices), f[0], len(trusteesIn(which&^wrong)))
			}
		}
	}
}

// TestReconstructOfAllGroups takes all polynomials with right shares, too many of them, one too few, and wrong ones before, between and behind them.
func TestReconstructOfAllGroups(t *testing.T) {
	for _, gr := range shareGroups() {
		for k := 1; k <= maxTrustees; k++ {
			for _, f := range someSecretPolys(gr, k) {
				d := wantDealing(gr, f, maxTrustees)
				for n := range maxTrustees + 1 {
					checkReconstruct(t, gr, d.Commits, firstTrustees(n), d.Shares[:n], f[0], n)
				}
				for _, wrong := range []int{1, 1 << 6, 1 << 3, 0b1010101, 0b0101010, 0b0000111, 0b1110000, 0b1111111, 0b1111110, 0b0111111} {
					shares, bad := withWrong(gr, d.Shares, wrong, gr.Q-1)
					checkReconstruct(t, gr, d.Commits, firstTrustees(maxTrustees), shares, f[0], maxTrustees-len(bad))
				}
			}
		}
	}
}

// ordersOf returns all orders of a list.
func ordersOf(l []int) [][]int {
	if len(l) == 0 {
		return [][]int{nil}
	}
	var orders [][]int
	for i, x := range l {
		for _, rest := range ordersOf(removed(l, i)) {
			orders = append(orders, append([]int{x}, rest...))
		}
	}
	return orders
}

// TestReconstructInAnyOrder takes all orders of the trustees, also with wrong shares among them.
func TestReconstructInAnyOrder(t *testing.T) {
	for _, gr := range []impl.Group{exampleGroup, topGroup} {
		for _, k := range []int{1, 3, 4, 7} {
			f := someSecretPolys(gr, k)[0]
			d := wantDealing(gr, f, maxTrustees)
			shares, _ := withWrong(gr, d.Shares, 0b0100101, 1)
			for i, indices := range ordersOf(firstTrustees(maxTrustees)) {
				checkSecret(t, gr, d.Commits, indices, sharesAt(d.Shares, indices), f[0])
				checkReconstruct(t, gr, d.Commits, indices, sharesAt(shares, indices), f[0], 4)
				if k == 3 && i%5 == 0 {
					checkSecret(t, gr, d.Commits, indices[:3], sharesAt(d.Shares, indices[:3]), f[0])
					checkNoSecret(t, gr, d.Commits, indices[:2], sharesAt(d.Shares, indices[:2]))
				}
			}
		}
	}
}

// TestReconstructOfAllSecrets takes all polynomials with two coefficients and all pairs of trustees.
func TestReconstructOfAllSecrets(t *testing.T) {
	for _, gr := range []impl.Group{exampleGroup, {P: 23, Q: 11, G: 18}, midGroups[0], {P: 47, Q: 23, G: 2}} {
		for _, f := range listsIn(gr.Q, 2) {
			d := wantDealing(gr, f, maxTrustees)
			for _, i := range firstTrustees(maxTrustees) {
				for _, k := range firstTrustees(maxTrustees) {
					if i != k {
						checkSecret(t, gr, d.Commits, []int{i, k}, sharesAt(d.Shares, []int{i, k}), f[0])
					}
				}
			}
		}
	}
}

// TestReconstructOfAllShares takes all exponents as the shares of three trustees: as many as are right count.
func TestReconstructOfAllShares(t *testing.T) {
	for _, commits := range [][]int{{8, 9}, {8}, {2, 3, 4}} {
		f := map[int][]int{1: {3}, 2: {3, 5}, 3: {1, 8, 2}}[len(commits)]
		for _, indices := range [][]int{{1, 2, 3}, {7, 2, 5}} {
			want := wantValues(11, f, indices)
			for _, shares := range listsIn(11, 3) {
				right := 0
				for i, share := range shares {
					if share == want[i] {
						right++
					}
				}
				checkReconstruct(t, exampleGroup, commits, indices, shares, f[0], right)
			}
		}
	}
}

// TestReconstructOfEqualTrustees takes a trustee twice, with the same share or with a wrong one, beside enough right shares.
func TestReconstructOfEqualTrustees(t *testing.T) {
	for _, gr := range shareGroups() {
		for k := 1; k <= 4; k++ {
			f := someSecretPolys(gr, k)[0]
			d := wantDealing(gr, f, maxTrustees)
			for n := k; n < maxTrustees; n++ {
				checkSecret(t, gr, d.Commits, firstTrustees(n), d.Shares[:n], f[0])
				for at := range n + 1 {
					for twice := range n {
						indices := inserted(firstTrustees(n), at, twice+1)
						checkNoSecret(t, gr, d.Commits, indices, inserted(d.Shares[:n], at, d.Shares[twice]))
						checkNoSecret(t, gr, d.Commits, indices, inserted(d.Shares[:n], at, (d.Shares[twice]+1)%gr.Q))
					}
				}
			}
			checkNoSecret(t, gr, d.Commits, inserted(firstTrustees(maxTrustees), 3, 7), inserted(d.Shares, 3, d.Shares[6]))
			checkNoSecret(t, gr, d.Commits, repeated(2, maxTrustees), repeated(d.Shares[1], maxTrustees))
			checkNoSecret(t, gr, d.Commits, repeated(2, 1000), repeated(d.Shares[1], 1000))
		}
	}
}

// TestReconstructOfOtherLengths takes lists of trustees and shares of different lengths, also with enough right shares in both.
func TestReconstructOfOtherLengths(t *testing.T) {
	for _, gr := range shareGroups() {
		for k := 1; k <= 4; k++ {
			d := wantDealing(gr, someSecretPolys(gr, k)[0], maxTrustees)
			for n := range maxTrustees + 1 {
				for m := range maxTrustees + 1 {
					if n != m {
						checkNoSecret(t, gr, d.Commits, firstTrustees(n), d.Shares[:m])
					}
				}
				for _, m := range []int{maxTrustees + 1, maxList, maxList + 1, 1000} {
					checkNoSecret(t, gr, d.Commits, firstTrustees(n), slices.Concat(d.Shares, repeated(0, m-maxTrustees)))
					checkNoSecret(t, gr, d.Commits, firstTrustees(m), d.Shares[:n])
					checkNoSecret(t, gr, d.Commits, firstTrustees(m), slices.Concat(d.Shares, repeated(0, m-maxTrustees)))
				}
			}
		}
	}
}

// TestReconstructOfOtherTrustees takes integers that are no trustees beside enough right shares, with the values there.
func TestReconstructOfOtherTrustees(t *testing.T) {
	for _, gr := range shareGroups() {
		for k := 1; k <= 4; k++ {
			f := someSecretPolys(gr, k)[0]
			d := wantDealing(gr, f, maxTrustees)
			for _, i := range append(otherTrustees, 0) {
				value := wantValue(gr.Q, f, (i%gr.Q+gr.Q)%gr.Q)
				for at := range k + 1 {
					checkNoSecret(t, gr, d.Commits, inserted(firstTrustees(k), at, i), inserted(d.Shares[:k], at, value))
					checkNoSecret(t, gr, d.Commits, inserted(firstTrustees(k), at, i), inserted(d.Shares[:k], at, 0))
				}
				checkNoSecret(t, gr, d.Commits, replaced(firstTrustees(k), 0, i), replaced(d.Shares[:k], 0, value))
			}
		}
	}
}

// TestReconstructOfBadShares takes integers that are no exponents beside enough right shares: unlike wrong shares, they are not ignored.
func TestReconstructOfBadShares(t *testing.T) {
	for _, gr := range shareGroups() {
		d := wantDealing(gr, someSecretPolys(gr, 3)[0], maxTrustees)
		for i, share := range d.Shares {
			for _, x := range append(notExponents(gr), share+gr.Q, share-gr.Q) {
				checkNoSecret(t, gr, d.Commits, firstTrustees(maxTrustees), replaced(d.Shares, i, x))
			}
		}
		for _, k := range []int{0, maxTrustees + 1, maxList, 1000} {
			checkNoSecret(t, gr, repeated(1, k), firstTrustees(maxTrustees), repeated(0, maxTrustees))
			checkNoSecret(t, gr, repeated(1, k), nil, nil)
		}
	}
}

// TestReconstructIsTheValueAtZero compares the secret with that of interpolation and with the first commitment.
func TestReconstructIsTheValueAtZero(t *testing.T) {
	for _, gr := range shareGroups() {
		for k := 1; k <= maxTrustees; k++ {
			for _, f := range someSecretPolys(gr, k) {
				d := wantDealing(gr, f, maxTrustees)
				indices := []int{7, 2, 5, 1, 4, 6, 3}[:k]
				got, ok := impl.Reconstruct(gr, d.Commits, indices, sharesAt(d.Shares, indices))
				want, _ := impl.ValueFrom(gr.Q, indices, sharesAt(d.Shares, indices), 0)
				checkInt(t, fmt.Sprintf("Reconstruct in %v of %v", gr, f), want, got, ok)
				if wantPower(gr.G, got, gr.P) != d.Commits[0] {
					t.Errorf("the power of G with the secret %d of %v in %v is not the first commitment", got, f, gr)
				}
			}
		}
	}
}
