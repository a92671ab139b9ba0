package tests

import (
	"fmt"
	"slices"
	"testing"

	"loop.example/g00878/impl"
)

// Promise 11 for SumDealings: the sum of dealings is the dealing of the sum of the polynomials.

// wantDealingSum returns the products of the commitments and the sums of the shares, by big integers.
func wantDealingSum(gr impl.Group, l []impl.Dealing) impl.Dealing {
	var sum impl.Dealing
	for k := range l[0].Commits {
		var commits []int
		for _, d := range l {
			commits = append(commits, d.Commits[k])
		}
		sum.Commits = append(sum.Commits, wantProductOf(gr, commits))
	}
	for k := range l[0].Shares {
		var shares []int
		for _, d := range l {
			shares = append(shares, d.Shares[k])
		}
		sum.Shares = append(sum.Shares, wantSumOf(gr, shares))
	}
	return sum
}

// checkDealingSum compares the sum of dealings with the expected one, which is valid.
func checkDealingSum(t *testing.T, gr impl.Group, l []impl.Dealing) {
	t.Helper()
	name := fmt.Sprintf("SumDealings(%v, %v)", gr, l)
	got, ok := impl.SumDealings(gr, l)
	checkDealing(t, name, wantDealingSum(gr, l), got, ok)
	if !impl.IsValidDealing(gr, got) {
		t.Errorf("%s = %v is not valid", name, got)
	}
}

// checkNoDealingSum fails unless dealings have no sum.
func checkNoDealingSum(t *testing.T, gr impl.Group, l []impl.Dealing) {
	t.Helper()
	got, ok := impl.SumDealings(gr, l)
	checkNone(t, fmt.Sprintf("SumDealings(%v, %v)", gr, l), got, ok)
}

func TestSumDealingsExamples(t *testing.T) {
	d := impl.Dealing{Commits: []int{8, 9}, Shares: []int{8, 2, 7}}
	wrong := impl.Dealing{Commits: []int{8, 9}, Shares: []int{8, 3, 7}}
	other := impl.Dealing{Commits: []int{3, 4}, Shares: []int{10, 1, 3}}
	for _, c := range []struct {
		l    []impl.Dealing
		want impl.Dealing
	}{
		{[]impl.Dealing{d}, d}, {[]impl.Dealing{wrong}, wrong}, {[]impl.Dealing{d, d}, impl.Dealing{Commits: []int{18, 12}, Shares: []int{5, 4, 3}}},
		{[]impl.Dealing{d, wrong}, impl.Dealing{Commits: []int{18, 12}, Shares: []int{5, 5, 3}}}, {[]impl.Dealing{d, other}, impl.Dealing{Commits: []int{1, 13}, Shares: []int{7, 3, 10}}}, {[]impl.Dealing{other, d, wrong}, impl.Dealing{Commits: []int{8, 2}, Shares: []int{4, 6, 6}}},
		{slices.Repeat([]impl.Dealing{d}, maxTrustees), impl.Dealing{Commits: []int{12, 4}, Shares: []int{1, 3, 5}}},
	} {
		got, ok := impl.SumDealings(exampleGroup, c.l)
		checkDealing(t, fmt.Sprintf("SumDealings of %v", c.l), c.want, got, ok)
	}
	for _, l := range [][]impl.Dealing{nil, {}, {{}}, {d, {}}, {{}, d}, {d, {Commits: []int{8}, Shares: d.Shares}}, {{Commits: []int{8}, Shares: d.Shares}, d}, {d, {Commits: d.Commits, Shares: []int{8, 2}}}, {{Commits: d.Commits, Shares: []int{8, 2}}, d}, slices.Repeat([]impl.Dealing{d}, maxTrustees+1)} {
		checkNoDealingSum(t, exampleGroup, l)
	}
}

// TestSumDealingsOfAllPolys takes all pairs of polynomials with one coefficient, and with two for the least order.
func TestSumDealingsOfAllPolys(t *testing.T) {
	for _, gr := range []impl.Group{exampleGroup, {P: 47, Q: 23, G: 2}} {
		polys := listsIn(gr.Q, 1)
		if gr == exampleGroup {
			polys = listsIn(gr.Q, 2)
		}
		for _, f := range polys {
			for _, g := range polys {
				checkSumOfPolys(t, gr, [][]int{f[:1], g[:1]}, 2)
				checkSumOfPolys(t, gr, [][]int{f, g}, 2)
			}
		}
	}
}

// checkSumOfPolys compares the sum of the dealings of polynomials with the dealing of their sum, whose shares are right and give its secret.
func checkSumOfPolys(t *testing.T, gr impl.Group, polys [][]int, n int) {
	t.Helper()
	var l []impl.Dealing
	sum := repeated(0, len(polys[0]))
	for _, f := range polys {
		d, _ := impl.DealShares(gr, f, n)
		l = append(l, d)
		for k, c := range f {
			sum[k] = (sum[k] + c) % gr.Q
		}
	}
	want, _ := impl.DealShares(gr, sum, n)
	got, ok := impl.SumDealings(gr, l)
	name := fmt.Sprintf("SumDealings in %v of the polynomials %v for %d", gr, polys, n)
	checkDealing(t, name, want, got, ok)
	bad, ok := impl.BadShares(gr, got)
	checkList(t, "BadShares of "+name, nil, bad, ok)
	secret, ok := impl.Reconstruct(gr, got.Commits, firstTrustees(n), got.Shares)
	checkInt(t, "Reconstruct of "+name, sum[0], secret, ok)
}

func TestSumDealingsOfAllGroups(t *testing.T) {
	for _, gr := range shareGroups() {
		for n := 1; n <= maxTrustees; n++ {
			for k := 1; k <= n; k++ {
				polys := someSecretPolys(gr, k)
				polys = append(polys, someResidues(gr.Q)[30:30+k])
				for many := 1; many <= maxTrustees; many++ {
					checkSumOfPolys(t, gr, polys[:many], n)
					checkSumOfPolys(t, gr, polys[maxTrustees-many:], n)
					checkSumOfPolys(t, gr, slices.Repeat(polys[many-1:many], many), n)
				}
			}
		}
	}
}

// someDealings returns as many dealings as there may be, of any elements and exponents, so that no share is the value of a polynomial.
func someDealings(gr impl.Group, k int, n int) []impl.Dealing {
	var l []impl.Dealing
	for i := range maxTrustees {
		l = append(l, impl.Dealing{Commits: someElements(gr)[5*i : 5*i+k], Shares: someResidues(gr.Q)[7*i : 7*i+n]})
	}
	return l
}

// TestSumDealingsOfWrongShares takes dealings whose shares do not fit the commitments.
func TestSumDealingsOfWrongShares(t *testing.T) {
	for _, gr := range shareGroups() {
		for n := 1; n <= maxTrustees; n++ {
			for k := 1; k <= n; k++ {
				l := someDealings(gr, k, n)
				for many := 1; many <= maxTrustees; many++ {
					checkDealingSum(t, gr, l[:many])
					checkDealingSum(t, gr, l[maxTrustees-many:])
				}
				greatest := impl.Dealing{Commits: repeated(wantPower(gr.G, gr.Q-1, gr.P), k), Shares: repeated(gr.Q-1, n)}
				checkDealingSum(t, gr, slices.Repeat([]impl.Dealing{greatest}, maxTrustees))
			}
		}
	}
}

// TestSumDealingsOfOtherNumbers takes no dealings and too many.
func TestSumDealingsOfOtherNumbers(t *testing.T) {
	for _, gr := range shareGroups() {
		d := wantDealing(gr, []int{3, 5}, 3)
		for many := range 12 {
			l := slices.Repeat([]impl.Dealing{d}, many)
			if 1 <= many && many <= maxTrustees {
				checkDealingSum(t, gr, l)
			} else {
				checkNoDealingSum(t, gr, l)
			}
		}
		for _, many := range []int{maxList, maxList + 1, 1000} {
			checkNoDealingSum(t, gr, slices.Repeat([]impl.Dealing{d}, many))
		}
	}
}

// TestSumDealingsOfOtherLengths takes one dealing with another number of commitments or shares at each index. It is valid by itself.
func TestSumDealingsOfOtherLengths(t *testing.T) {
	for _, gr := range shareGroups() {
		l := someDealings(gr, 3, 5)
		for many := 2; many <= maxTrustees; many++ {
			checkDealingSum(t, gr, l[:many])
			for i := range many {
				for k := 1; k <= maxTrustees; k++ {
					for n := k; n <= maxTrustees; n++ {
						if k == 3 && n == 5 {
							continue
						}
						other := impl.Dealing{Commits: repeated(gr.G, k), Shares: repeated(1, n)}
						checkValidDealing(t, gr, other, true)
						checkNoDealingSum(t, gr, slices.Replace(slices.Clone(l[:many]), i, i+1, other))
					}
				}
			}
		}
	}
}

// TestSumDealingsOfBadDealings takes one dealing that is not valid at each index, also in a list of alike ones.
func TestSumDealingsOfBadDealings(t *testing.T) {
	for _, gr := range shareGroups() {
		l := someDealings(gr, 2, 3)
		for many := 1; many <= maxTrustees; many++ {
			for i := range many {
				d := l[i]
				for _, x := range append(notElements(gr), d.Commits[1]+gr.P, d.Commits[1]-gr.P) {
					checkNoDealingSum(t, gr, slices.Replace(slices.Clone(l[:many]), i, i+1, impl.Dealing{Commits: []int{d.Commits[0], x}, Shares: d.Shares}))
					checkNoDealingSum(t, gr, slices.Replace(slices.Clone(l[:many]), i, i+1, impl.Dealing{Commits: []int{x, 1}, Shares: d.Shares}))
				}
				for _, x := range append(notExponents(gr), d.Shares[2]+gr.Q, d.Shares[2]-gr.Q) {
					checkNoDealingSum(t, gr, slices.Replace(slices.Clone(l[:many]), i, i+1, impl.Dealing{Commits: d.Commits, Shares: replaced(d.Shares, 2, x)}))
					checkNoDealingSum(t, gr, slices.Replace(slices.Clone(l[:many]), i, i+1, impl.Dealing{Commits: d.Commits, Shares: replaced(d.Shares, 0, x)}))
				}
			}
		}
		for k := range maxTrustees + 3 {
			for n := range maxTrustees + 3 {
				if k == 0 || k > n || n > maxTrustees {
					d := impl.Dealing{Commits: repeated(gr.G, k), Shares: repeated(1, n)}
					checkNoDealingSum(t, gr, []impl.Dealing{d})
					checkNoDealingSum(t, gr, []impl.Dealing{d, d})
				}
			}
		}
	}
}

// TestSumDealingsOfOneGroup takes commitments of another group with the same P, and shares that are exponents of a greater order.
func TestSumDealingsOfOneGroup(t *testing.T) {
	d := wantDealing(exampleGroup, []int{3, 5}, 3)
	checkNoDealingSum(t, exampleGroup, []impl.Dealing{d, {Commits: []int{22, 1}, Shares: []int{1, 0, 1}}})
	checkNoDealingSum(t, exampleGroup, []impl.Dealing{{Commits: []int{5, 8}, Shares: []int{1, 0, 1}}, d})
	checkNoDealingSum(t, exampleGroup, []impl.Dealing{d, {Commits: d.Commits, Shares: []int{1, 0, 12}}})
}
