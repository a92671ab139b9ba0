package tests

import (
	"fmt"
	"slices"
	"testing"

	"loop.example/g00878/impl"
)

// Promise 11: all shares of a dealing are right, enough of them give the secret, and fewer than the threshold give nothing.
// This file covers dealings, commitments at trustees and checks of shares. The expected values come from big integers, and some from a calculation outside this program.

const maxTrustees = impl.MaxTrustees

// midGroups have orders between those of the small groups and the large ones; with Q of 11 and 23 they have all primes above MaxTrustees whose polynomials are counted.
var midGroups = []impl.Group{{P: 53, Q: 13, G: 10}, {P: 103, Q: 17, G: 64}, {P: 191, Q: 19, G: 52}, {P: 59, Q: 29, G: 3}}

// noShareGroups are valid groups whose order is not greater than MaxTrustees.
var noShareGroups = []impl.Group{{P: 3, Q: 2, G: 2}, {P: 23, Q: 2, G: 22}, {P: 7, Q: 3, G: 2}, {P: 11, Q: 5, G: 3}, {P: 29, Q: 7, G: 7}, {P: 43, Q: 7, G: 4}, largeGroups[1], largeGroups[6]}

// shareGroups returns the groups in which secrets can be shared.
func shareGroups() []impl.Group {
	return slices.DeleteFunc(append(allGroups(), midGroups...), func(gr impl.Group) bool { return gr.Q <= maxTrustees })
}

// firstTrustees returns the numbers of the first n trustees.
func firstTrustees(n int) []int {
	return counting(n + 1)[1:]
}

// someSecretPolys returns polynomials with n coefficients: ordinary ones, one with leading zeros, and those with the least and the greatest coefficients.
func someSecretPolys(gr impl.Group, n int) [][]int {
	r := someResidues(gr.Q)
	return [][]int{r[4 : 4+n], r[20 : 20+n], padded(r[7:7+n/2], n), repeated(0, n), repeated(gr.Q-1, n), append(repeated(0, n-1), 1)}
}

// wantDealing returns the dealing of a polynomial.
func wantDealing(gr impl.Group, f []int, n int) impl.Dealing {
	d := impl.Dealing{Shares: wantValues(gr.Q, f, firstTrustees(n))}
	for _, c := range f {
		d.Commits = append(d.Commits, wantPower(gr.G, c, gr.P))
	}
	return d
}

// checkDealing fails unless a call returned the wanted dealing and true.
func checkDealing(t *testing.T, name string, want impl.Dealing, got impl.Dealing, ok bool) {
	t.Helper()
	if !ok || !slices.Equal(got.Commits, want.Commits) || !slices.Equal(got.Shares, want.Shares) {
		t.Errorf("%s = %v, %v; want %v, true", name, got, ok, want)
	}
}

func TestShareConstants(t *testing.T) {
	if maxTrustees != 7 {
		t.Error("MaxTrustees is", maxTrustees)
	}
}

// TestShareGroups shows that the groups of these tests are what they are meant to be.
func TestShareGroups(t *testing.T) {
	orders := map[int]bool{}
	for _, gr := range append(shareGroups(), noShareGroups...) {
		orders[gr.Q] = true
		if !impl.IsValidGroup(gr) {
			t.Errorf("%v is not valid", gr)
		}
	}
	for _, q := range []int{2, 3, 5, 7, 11, 13, 17, 19, 23, 29, 193, topGroup.Q} {
		if !orders[q] {
			t.Errorf("no group has the order %d", q)
		}
	}
}

func TestDealSharesExamples(t *testing.T) {
	of23 := impl.Group{P: 47, Q: 23, G: 2}
	for _, c := range []struct {
		gr   impl.Group
		f    []int
		n    int
		want impl.Dealing
	}{
		{exampleGroup, []int{3, 5}, 3, impl.Dealing{Commits: []int{8, 9}, Shares: []int{8, 2, 7}}},
		{exampleGroup, []int{3, 5}, 2, impl.Dealing{Commits: []int{8, 9}, Shares: []int{8, 2}}},
		{exampleGroup, []int{3, 5, 0}, 3, impl.Dealing{Commits: []int{8, 9, 1}, Shares: []int{8, 2, 7}}},
		{exampleGroup, []int{0}, 1, impl.Dealing{Commits: []int{1}, Shares: []int{0}}},
		{exampleGroup, []int{10}, 1, impl.Dealing{Commits: []int{12}, Shares: []int{10}}},
		{exampleGroup, []int{7}, 7, impl.Dealing{Commits: []int{13}, Shares: []int{7, 7, 7, 7, 7, 7, 7}}},
		{exampleGroup, []int{0, 0}, 2, impl.Dealing{Commits: []int{1, 1}, Shares: []int{0, 0}}},
		{exampleGroup, []int{0, 1}, 7, impl.Dealing{Commits: []int{1, 2}, Shares: []int{1, 2, 3, 4, 5, 6, 7}}},
		{exampleGroup, []int{10, 10, 10}, 5, impl.Dealing{Commits: []int{12, 12, 12}, Shares: []int{8, 4, 9, 1, 2}}},
		{exampleGroup, []int{0, 0, 0, 0, 0, 0, 1}, 7, impl.Dealing{Commits: []int{1, 1, 1, 1, 1, 1, 2}, Shares: []int{1, 9, 3, 4, 5, 5, 4}}},
		{exampleGroup, []int{1, 2, 3, 4, 5, 6, 7}, 7, impl.Dealing{Commits: []int{2, 4, 8, 16, 9, 18, 13}, Shares: []int{6, 10, 2, 10, 1, 3, 9}}},
		{of23, []int{22, 5, 9}, 4, impl.Dealing{Commits: []int{24, 32, 42}, Shares: []int{13, 22, 3, 2}}},
		{of23, []int{0, 22}, 7, impl.Dealing{Commits: []int{1, 24}, Shares: []int{22, 21, 20, 19, 18, 17, 16}}},
		{topGroup, []int{123456789, 999999190, 500000000}, 4, impl.Dealing{Commits: []int{962152726, 499999596, 1276408233}, Shares: []int{623456788, 123458405, 623460022, 123463257}}},
		{topGroup, repeated(999999190, 7), 7, impl.Dealing{Commits: repeated(499999596, 7), Shares: []int{999999184, 999999064, 999998098, 999993730, 999979660, 999943204, 999861934}}},
	} {
		got, ok := impl.DealShares(c.gr, c.f, c.n)
		checkDealing(t, fmt.Sprintf("DealShares(%v, %v, %d)", c.gr, c.f, c.n), c.want, got, ok)
	}
}

// checkDealt compares the dealing of a polynomial with the expected one, checks all its shares, and reconstructs the secret from as many of them as the threshold.
func checkDealt(t *testing.T, gr impl.Group, f []int, n int) {
	t.Helper()
	name := fmt.Sprintf("DealShares(%v, %v, %d)", gr, f, n)
	d, ok := impl.DealShares(gr, f, n)
	checkDealing(t, name, wantDealing(gr, f, n), d, ok)
	if !impl.IsValidDealing(gr, d) {
		t.Errorf("%s = %v is not valid", name, d)
	}
	for i, share := range d.Shares {
		is, ok := impl.CheckShare(gr, d.Commits, i+1, share)
		checkVerdict(t, fmt.Sprintf("CheckShare of share %d of %s", i+1, name), true, is, ok)
	}
	bad, ok := impl.BadShares(gr, d)
	checkList(t, "BadShares of "+name, nil, bad, ok)
	secret, ok := impl.Reconstruct(gr, d.Commits, firstTrustees(n)[n-len(f):], d.Shares[n-len(f):])
	checkInt(t, "Reconstruct of the last shares of "+name, f[0], secret, ok)
	is, ok := impl.AreConsistent(gr, len(f), d.Shares)
	checkVerdict(t, "AreConsistent of "+name, true, is, ok)
}

// TestDealingsOfAllShortPolys takes all polynomials with up to three coefficients.
func TestDealingsOfAllShortPolys(t *testing.T) {
	for _, f := range smallLists(11, 3)[1:] {
		for n := len(f); n <= maxTrustees; n++ {
			checkDealt(t, exampleGroup, f, n)
		}
	}
}

func TestDealingsOfAllGroups(t *testing.T) {
	for _, gr := range shareGroups() {
		for n := 1; n <= maxTrustees; n++ {
			for k := 1; k <= n; k++ {
				for _, f := range someSecretPolys(gr, k) {
					checkDealt(t, gr, f, n)
				}
			}
		}
	}
}

// TestDealingsOfOtherNumbers takes all numbers of coefficients and of trustees up to the limits and beyond.
func TestDealingsOfOtherNumbers(t *testing.T) {
	for _, gr := range shareGroups() {
		for k := range maxTrustees + 3 {
			for _, n := range []int{-1 << 63, -7, -1, 0, 1, 2, 3, 4, 5, 6, 7, 8, 9, maxList, 1 << 32, 1<<63 - 1} {
				for _, f := range [][]int{repeated(0, k), repeated(1, k)} {
					if 1 <= k && k <= n && n <= maxTrustees {
						checkDealt(t, gr, f, n)
						continue
					}
					d, ok := impl.DealShares(gr, f, n)
					checkNone(t, fmt.Sprintf("DealShares(%v, %v, %d)", gr, f, n), d, ok)
				}
			}
		}
		for _, n := range []int{0, 1, maxTrustees, maxTrustees + 1, maxList, 1000} {
			for _, k := range []int{maxTrustees + 1, maxList, maxList + 1, 1000} {
				d, ok := impl.DealShares(gr, repeated(1, k), n)
				checkNone(t, fmt.Sprintf("DealShares(%v) of %d ones for %d", gr, k, n), d, ok)
			}
		}
	}
}

// checkValidDealing fails unless IsValidDealing reports what is wanted.
func checkValidDealing(t *testing.T, gr impl.Group, d impl.Dealing, want bool) {
	t.Helper()
	if got := impl.IsValidDealing(gr, d); got != want {
		t.Errorf("IsValidDealing(%v, %v) = %v", gr, d, got)
	}
}

// TestValidDealingsOfAllLengths takes all numbers of commitments and shares up to the limits and beyond.
func TestValidDealingsOfAllLengths(t *testing.T) {
	for _, gr := range shareGroups() {
		for k := range maxTrustees + 3 {
			for n := range maxTrustees + 3 {
				want := 1 <= k && k <= n && n <= maxTrustees
				checkValidDealing(t, gr, impl.Dealing{Commits: repeated(1, k), Shares: repeated(0, n)}, want)
				checkValidDealing(t, gr, impl.Dealing{Commits: someElements(gr)[2 : 2+k], Shares: someResidues(gr.Q)[:n]}, want)
			}
			for _, n := range []int{maxList, maxList + 1, 1000} {
				checkValidDealing(t, gr, impl.Dealing{Commits: repeated(1, k), Shares: repeated(0, n)}, false)
				checkValidDealing(t, gr, impl.Dealing{Commits: repeated(1, n), Shares: repeated(0, k)}, false)
				checkValidDealing(t, gr, impl.Dealing{Commits: repeated(1, n), Shares: repeated(0, n)}, false)
			}
		}
	}
}

// TestValidDealingsOfAnyIntegers takes all integers of a range as a commitment and as a share.
func TestValidDealingsOfAnyIntegers(t *testing.T) {
	for _, gr := range []impl.Group{exampleGroup, {P: 47, Q: 23, G: 2}, midGroups[0]} {
		elements := elementsIn(gr)
		for x := -gr.P - 2; x < 2*gr.P+3; x++ {
			isElement, isExponent := slices.Contains(elements, x), 0 <= x && x < gr.Q
			checkValidDealing(t, gr, impl.Dealing{Commits: []int{x}, Shares: []int{1}}, isElement)
			checkValidDealing(t, gr, impl.Dealing{Commits: []int{x, gr.G}, Shares: []int{1, 2, 3}}, isElement)
			checkValidDealing(t, gr, impl.Dealing{Commits: []int{gr.G, x}, Shares: []int{1, 2}}, isElement)
			checkValidDealing(t, gr, impl.Dealing{Commits: []int{gr.G}, Shares: []int{x}}, isExponent)
			checkValidDealing(t, gr, impl.Dealing{Commits: []int{gr.G}, Shares: []int{x, 1, 2}}, isExponent)
			checkValidDealing(t, gr, impl.Dealing{Commits: []int{gr.G, 1}, Shares: []int{0, 1, x}}, isExponent)
			checkValidDealing(t, gr, impl.Dealing{Commits: []int{x}, Shares: []int{x}}, isElement && isExponent)
		}
	}
}

// TestValidDealingsOfBadIntegers takes integers that are no elements or no exponents at each place of dealings that are valid without them.
func TestValidDealingsOfBadIntegers(t *testing.T) {
	for _, gr := range shareGroups() {
		for _, k := range []int{1, 2, maxTrustees} {
			d := wantDealing(gr, someSecretPolys(gr, k)[0], maxTrustees)
			checkValidDealing(t, gr, d, true)
			for i := range d.Commits {
				for _, x := range append(notElements(gr), d.Commits[i]+gr.P, d.Commits[i]-gr.P) {
					checkValidDealing(t, gr, impl.Dealing{Commits: replaced(d.Commits, i, x), Shares: d.Shares}, false)
				}
			}
			for i := range d.Shares {
				for _, x := range append(notExponents(gr), d.Shares[i]+gr.Q, d.Shares[i]-gr.Q) {
					checkValidDealing(t, gr, impl.Dealing{Commits: d.Commits, Shares: replaced(d.Shares, i, x)}, false)
				}
			}
		}
	}
}

func TestCommitAtExamples(t *testing.T) {
	for _, c := range []struct {
		gr      impl.Group
		commits []int
		want    []int
	}{
		{exampleGroup, []int{8, 9}, []int{8, 3, 4, 13, 2, 18, 1, 9}},
		{exampleGroup, []int{1}, []int{1, 1, 1, 1, 1, 1, 1, 1}},
		{exampleGroup, []int{18}, []int{18, 18, 18, 18, 18, 18, 18, 18}},
		{exampleGroup, []int{18, 1, 4}, []int{18, 3, 8, 4, 9, 2, 2, 9}},
		{exampleGroup, []int{2, 3, 4, 6, 8, 9, 12}, []int{2, 9, 12, 8, 4, 1, 8, 3}},
		{topGroup, []int{962152726, 499999596, 1276408233}, []int{962152726, 447292575, 824117564, 538234925, 329977474, 1404384169, 894790698, 1988744183}},
	} {
		for i, want := range c.want {
			got, ok := impl.CommitAt(c.gr, c.commits, i)
			checkInt(t, fmt.Sprintf("CommitAt(%v, %v, %d)", c.gr, c.commits, i), want, got, ok)
		}
	}
}

// wantCommitAt returns the product of the powers of commitment k with i^k.
func wantCommitAt(gr impl.Group, commits []int, i int) int {
	return wantProduct(gr, commits, wantPowers(gr.Q, i, len(commits)))
}

// checkCommitAt compares CommitAt with the product of powers.
func checkCommitAt(t *testing.T, gr impl.Group, commits []int, i int) {
	t.Helper()
	got, ok := impl.CommitAt(gr, commits, i)
	checkInt(t, fmt.Sprintf("CommitAt(%v, %v, %d)", gr, commits, i), wantCommitAt(gr, commits, i), got, ok)
}

// TestCommitAtOfAllElements takes all elements as one or two commitments.
func TestCommitAtOfAllElements(t *testing.T) {
	for _, gr := range shareGroups() {
		if gr.Q > 29 {
			continue
		}
		for _, x := range powersIn(gr, gr.G, gr.Q) {
			for i := range maxTrustees + 1 {
				checkCommitAt(t, gr, []int{x}, i)
				for _, y := range powersIn(gr, gr.G, gr.Q) {
					checkCommitAt(t, gr, []int{x, y}, i)
				}
			}
		}
	}
}

// TestCommitAtOfAllGroups takes commitments for which it is the power of G with the value of the polynomial, and any elements.
func TestCommitAtOfAllGroups(t *testing.T) {
	for _, gr := range shareGroups() {
		for k := 1; k <= maxTrustees; k++ {
			for i := range maxTrustees + 1 {
				for _, f := range someSecretPolys(gr, k) {
					commits := wantDealing(gr, f, k).Commits
					got, ok := impl.CommitAt(gr, commits, i)
					checkInt(t, fmt.Sprintf("CommitAt(%v, %v, %d)", gr, commits, i), wantPower(gr.G, wantValue(gr.Q, f, i), gr.P), got, ok)
				}
				for from := range 5 {
					checkCommitAt(t, gr, someElements(gr)[5*from:5*from+k], i)
				}
				checkCommitAt(t, gr, repeated(1, k), i)
				checkCommitAt(t, gr, repeated(gr.G, k), i)
			}
		}
	}
}

// otherTrustees are integers that are no trustees and not 0; some have the residues of trustees modulo 11.
var otherTrustees = []int{-1 << 63, -11, -10, -7, -1, maxTrustees + 1, maxTrustees + 2, 11, 12, 18, maxList, 999999192, 1 << 32, 1<<32 + 1, 1<<63 - 1}

func TestCommitAtOfOtherNumbers(t *testing.T) {
	for _, gr := range shareGroups() {
		for _, i := range otherTrustees {
			for _, commits := range [][]int{{1}, {gr.G}, {gr.G, 1, gr.G}, repeated(1, maxTrustees)} {
				got, ok := impl.CommitAt(gr, commits, i)
				checkNoInt(t, fmt.Sprintf("CommitAt(%v, %v, %d)", gr, commits, i), got, ok)
			}
		}
		for i := range maxTrustees + 1 {
			for _, k := range []int{0, maxTrustees + 1, maxTrustees + 2, maxList, maxList + 1, 1000} {
				got, ok := impl.CommitAt(gr, repeated(1, k), i)
				checkNoInt(t, fmt.Sprintf("CommitAt(%v) of %d commitments at %d", gr, k, i), got, ok)
			}
		}
	}
}

func TestCheckShareExamples(t *testing.T) {
	for i, right := range []int{8, 2, 7, 1, 6, 0, 5} {
		for share := range 11 {
			is, ok := impl.CheckShare(exampleGroup, []int{8, 9}, i+1, share)
			checkVerdict(t, fmt.Sprintf("CheckShare of trustee %d and %d", i+1, share), share == right, is, ok)
		}
	}
}

// TestCheckShareOfAllShares takes all exponents as shares for all pairs of commitments: exactly one of them is right.
func TestCheckShareOfAllShares(t *testing.T) {
	for _, gr := range shareGroups() {
		if gr.Q > 23 || gr.P > 200 {
			continue
		}
		for _, f := range listsIn(gr.Q, 2) {
			d := wantDealing(gr, f, maxTrustees)
			for i, right := range d.Shares {
				for share := range gr.Q {
					is, ok := impl.CheckShare(gr, d.Commits, i+1, share)
					checkVerdict(t, fmt.Sprintf("CheckShare(%v, %v, %d, %d)", gr, d.Commits, i+1, share), share == right, is, ok)
				}
			}
		}
	}
}

func TestCheckShareOfAllGroups(t *testing.T) {
	for _, gr := range shareGroups() {
		for k := 1; k <= maxTrustees; k++ {
			for _, f := range someSecretPolys(gr, k) {
				d := wantDealing(gr, f, maxTrustees)
				for i, right := range d.Shares {
					for _, share := range append(slices.Concat(firstOf(gr.Q, 10), d.Shares, f), right, (right+1)%gr.Q, (right+gr.Q-1)%gr.Q, (gr.Q-right)%gr.Q) {
						is, ok := impl.CheckShare(gr, d.Commits, i+1, share)
						checkVerdict(t, fmt.Sprintf("CheckShare(%v, %v, %d, %d)", gr, d.Commits, i+1, share), share == right, is, ok)
					}
				}
			}
		}
	}
}

// TestCheckShareOfOtherTrustees takes 0, too, for which the secret is not a share.
func TestCheckShareOfOtherTrustees(t *testing.T) {
	for _, gr := range shareGroups() {
		for _, f := range someSecretPolys(gr, 3) {
			commits := wantDealing(gr, f, 3).Commits
			for _, i := range append(otherTrustees, 0) {
				for _, share := range []int{f[0], wantValue(gr.Q, f, 1), wantValue(gr.Q, f, 7), wantValue(gr.Q, f, 8), 0, 1} {
					is, ok := impl.CheckShare(gr, commits, i, share)
					checkNone(t, fmt.Sprintf("CheckShare(%v, %v, %d, %d)", gr, commits, i, share), is, ok)
				}
			}
		}
		for _, k := range []int{0, maxTrustees + 1, maxTrustees + 2, maxList, maxList + 1, 1000} {
			is, ok := impl.CheckShare(gr, repeated(1, k), 1, 0)
			checkNone(t, fmt.Sprintf("CheckShare(%v) of %d commitments", gr, k), is, ok)
		}
	}
}

// withWrong returns the shares with other ones for some trustees, whose bits in which are 1, and these trustees.
func withWrong(gr impl.Group, shares []int, which int, delta int) ([]int, []int) {
	changed := slices.Clone(shares)
	var wrong []int
	for i := range shares {
		if which>>i&1 == 1 {
			changed[i] = (shares[i] + delta) % gr.Q
			wrong = append(wrong, i+1)
		}
	}
	return changed, wrong
}

func TestBadSharesExamples(t *testing.T) {
	for _, c := range []struct{ shares, want []int }{
		{[]int{8, 2, 7}, nil}, {[]int{8, 3, 7}, []int{2}}, {[]int{7, 2, 7}, []int{1}}, {[]int{8, 2, 8}, []int{3}}, {[]int{8, 7, 2}, []int{2, 3}}, {[]int{2, 8, 7}, []int{1, 2}}, {[]int{7, 2, 8}, []int{1, 3}}, {[]int{0, 0, 0}, []int{1, 2, 3}},
		{[]int{8, 2}, nil}, {[]int{2, 8}, []int{1, 2}}, {[]int{8, 2, 7, 1, 6, 0, 5}, nil}, {[]int{0, 0, 0, 0, 0, 0, 0}, []int{1, 2, 3, 4, 5, 7}}, {[]int{8, 2, 7, 1, 6, 0, 6}, []int{7}}, {repeated(3, 7), firstTrustees(7)},
	} {
		got, ok := impl.BadShares(exampleGroup, impl.Dealing{Commits: []int{8, 9}, Shares: c.shares})
		checkList(t, fmt.Sprintf("BadShares of %v", c.shares), c.want, got, ok)
	}
}

// TestBadSharesOfAllSubsets makes the shares of all sets of trustees wrong.
func TestBadSharesOfAllSubsets(t *testing.T) {
	for _, gr := range shareGroups() {
		for n := 1; n <= maxTrustees; n++ {
			for k := 1; k <= n; k++ {
				d := wantDealing(gr, someSecretPolys(gr, k)[0], n)
				for which := range 1 << n {
					delta := []int{1, gr.Q - 1, gr.Q/2 + 1}[which%3]
					shares, wrong := withWrong(gr, d.Shares, which, delta)
					got, ok := impl.BadShares(gr, impl.Dealing{Commits: d.Commits, Shares: shares})
					checkList(t, fmt.Sprintf("BadShares(%v, %v, %v)", gr, d.Commits, shares), wrong, got, ok)
				}
			}
		}
	}
}

// TestBadSharesOfAllShares takes all lists of three shares for one pair of commitments: a share is wrong if CheckShare says so.
func TestBadSharesOfAllShares(t *testing.T) {
	for _, l := range listsIn(11, 3) {
		var want []int
		for i, share := range l {
			if is, _ := impl.CheckShare(exampleGroup, []int{8, 9}, i+1, share); !is {
				want = append(want, i+1)
			}
		}
		got, ok := impl.BadShares(exampleGroup, impl.Dealing{Commits: []int{8, 9}, Shares: l})
		checkList(t, fmt.Sprintf("BadShares of %v", l), want, got, ok)
	}
}

// TestBadSharesOfOtherCommitments takes the shares of one polynomial with the commitments of another one: they are right where the polynomials have the same value.
func TestBadSharesOfOtherCommitments(t *testing.T) {
	for _, gr := range shareGroups() {
		for i, f := range someSecretPolys(gr, 4) {
			for k, g := range someSecretPolys(gr, 3) {
				d, other := wantDealing(gr, f, 7), wantDealing(gr, g, 7)
				var want []int
				for n := range d.Shares {
					if d.Shares[n] != other.Shares[n] {
						want = append(want, n+1)
					}
				}
				got, ok := impl.BadShares(gr, impl.Dealing{Commits: other.Commits, Shares: d.Shares})
				checkList(t, fmt.Sprintf("BadShares in %v of the polynomials %d and %d", gr, i, k), want, got, ok)
			}
		}
	}
}

// TestBadSharesOfDealingsThatAreNotValid takes dealings of other lengths.
func TestBadSharesOfDealingsThatAreNotValid(t *testing.T) {
	for _, gr := range shareGroups() {
		for k := range maxTrustees + 3 {
			for n := range maxTrustees + 3 {
				d := impl.Dealing{Commits: repeated(1, k), Shares: repeated(0, n)}
				got, ok := impl.BadShares(gr, d)
				if want := 1 <= k && k <= n && n <= maxTrustees; ok != want || len(got) != 0 {
					t.Errorf("BadShares(%v, %v) = %v, %v", gr, d, got, ok)
				}
			}
		}
	}
}
