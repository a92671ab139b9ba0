package tests

import (
	"slices"
	"testing"

	"loop.example/g00878/impl"
)

// Promise 11 for invalid arguments, for which each function returns zero values.

// shareArgs are arguments for all functions of chapter 11: d is the dealing of coefs for n trustees, i a trustee with a share, indices and shares those of several, and l dealings that are alike.
type shareArgs struct {
	gr      impl.Group
	coefs   []int
	n       int
	d       impl.Dealing
	commits []int
	i       int
	share   int
	indices []int
	shares  []int
	t       int
	values  []int
	known   []int
	l       []impl.Dealing
}

// shareCalls returns all functions of chapter 11. ShareCounts stands apart, since it takes few groups.
func shareCalls() []tableCall[shareArgs] {
	return []tableCall[shareArgs]{
		{"DealShares", []string{"coefs", "n"}, func(a shareArgs) outcome { return outcomeOf(impl.DealShares(a.gr, a.coefs, a.n)) }},
		{"IsValidDealing", []string{"d", "check"}, func(a shareArgs) outcome {
			is := impl.IsValidDealing(a.gr, a.d)
			return outcomeOf(is, is)
		}},
		{"CommitAt", []string{"commits", "i"}, func(a shareArgs) outcome { return outcomeOf(impl.CommitAt(a.gr, a.commits, a.i)) }},
		{"CheckShare", []string{"commits", "i", "share", "check"}, func(a shareArgs) outcome {
			return outcomeOf(impl.CheckShare(a.gr, a.commits, a.i, a.share))
		}},
		{"BadShares", []string{"d"}, func(a shareArgs) outcome { return outcomeOf(impl.BadShares(a.gr, a.d)) }},
		{"Reconstruct", []string{"commits", "indices", "shares"}, func(a shareArgs) outcome {
			return outcomeOf(impl.Reconstruct(a.gr, a.commits, a.indices, a.shares))
		}},
		{"AreConsistent", []string{"t", "values", "check"}, func(a shareArgs) outcome {
			return outcomeOf(impl.AreConsistent(a.gr, a.t, a.values))
		}},
		{"SumDealings", []string{"l"}, func(a shareArgs) outcome { return outcomeOf(impl.SumDealings(a.gr, a.l)) }},
		{"ShareCounts", []string{"t", "known", "count"}, func(a shareArgs) outcome { return outcomeOf(impl.ShareCounts(a.gr, a.t, a.known)) }},
	}
}

// withDealings returns valid arguments with the dealing of their polynomial.
func withDealings(a shareArgs) shareArgs {
	a.d = wantDealing(a.gr, a.coefs, a.n)
	a.commits, a.share = a.d.Commits, wantValue(a.gr.Q, a.coefs, a.i)
	a.shares, a.values, a.known = wantValues(a.gr.Q, a.coefs, a.indices), wantValues(a.gr.Q, a.coefs, firstTrustees(a.n)), wantValues(a.gr.Q, a.coefs, firstTrustees(a.n))
	return a
}

// shareStarts returns valid arguments, for which all functions succeed: ordinary ones, the least ones and the longest ones.
func shareStarts(gr impl.Group) []shareArgs {
	r, top := someResidues(gr.Q), gr.Q-1
	ordinary := withDealings(shareArgs{gr: gr, coefs: []int{r[5], top}, n: 3, i: 2, indices: []int{3, 1}, t: 2})
	ordinary.l = []impl.Dealing{ordinary.d, wantDealing(gr, r[7:9], 3)}
	least := withDealings(shareArgs{gr: gr, coefs: []int{0}, n: 1, i: 1, indices: []int{1}, t: 1})
	least.l = []impl.Dealing{least.d}
	longest := withDealings(shareArgs{gr: gr, coefs: r[4 : 4+maxTrustees], n: maxTrustees, i: maxTrustees, indices: []int{7, 2, 5, 1, 4, 6, 3}, t: 3})
	longest.values, longest.l = repeated(top, maxTrustees), slices.Repeat([]impl.Dealing{longest.d}, maxTrustees)
	return []shareArgs{ordinary, least, longest}
}

// allShareStarts returns the valid arguments of all groups in which secrets can be shared.
func allShareStarts() []shareArgs {
	var starts []shareArgs
	for _, gr := range shareGroups() {
		starts = append(starts, shareStarts(gr)...)
	}
	return starts
}

// TestSharesAccept shows that the arguments are refused for their faults alone.
func TestSharesAccept(t *testing.T) {
	for _, a := range allShareStarts() {
		for _, f := range shareCalls() {
			got, want := f.call(a), true
			if slices.Contains(f.uses, "count") {
				want = a.gr.Q <= 23
			}
			if got.ok != want || slices.Contains(f.uses, "check") && got.text != "true" {
				t.Errorf("%s of %+v = %v, %v", f.name, a, got.text, got.ok)
			}
		}
	}
}

func TestSharesOfBadGroups(t *testing.T) {
	for _, gr := range badGroups {
		for _, other := range []impl.Group{exampleGroup, {P: 47, Q: 23, G: 2}} {
			for _, a := range shareStarts(other) {
				a.gr = gr
				checkRefused(t, shareCalls(), "", a)
			}
		}
	}
}

// TestSharesOfFewElements takes valid groups whose order is not greater than MaxTrustees, with arguments of the group.
func TestSharesOfFewElements(t *testing.T) {
	for _, gr := range noShareGroups {
		a := shareArgs{gr: gr, coefs: []int{1}, n: 1, d: impl.Dealing{Commits: []int{gr.G}, Shares: []int{1}}, commits: []int{gr.G}, i: 1, share: 1, indices: []int{1}, shares: []int{1}, t: 1, values: []int{1}, known: []int{1}, l: []impl.Dealing{{Commits: []int{gr.G}, Shares: []int{1}}}}
		checkRefused(t, shareCalls(), "", a)
		a.coefs, a.d, a.commits, a.share, a.shares, a.values, a.known, a.l = []int{0}, impl.Dealing{Commits: []int{1}, Shares: []int{0}}, []int{1}, 0, []int{0}, []int{0}, nil, []impl.Dealing{{Commits: []int{1}, Shares: []int{0}}}
		checkRefused(t, shareCalls(), "", a)
		for _, a := range shareStarts(exampleGroup) {
			a.gr = gr
			checkRefused(t, shareCalls(), "", a)
		}
	}
}

// TestSharesOfBadCommits takes no commitments and too many, and integers that are no elements at each place, some of which have the residues of the right ones.
func TestSharesOfBadCommits(t *testing.T) {
	for _, a := range allShareStarts() {
		lists := [][]int{nil, {}, repeated(1, maxTrustees+1), repeated(a.gr.G, maxTrustees+1), repeated(1, maxList), repeated(1, maxList+1), repeated(1, 1000)}
		for i, c := range a.commits {
			for _, x := range append(notElements(a.gr), c+a.gr.P, c-a.gr.P, -c) {
				lists = append(lists, replaced(a.commits, i, x))
			}
		}
		for _, l := range lists {
			bad := a
			bad.commits = l
			checkRefused(t, shareCalls(), "commits", bad)
			bad = a
			bad.d.Commits = l
			checkRefused(t, shareCalls(), "d", bad)
			for i := range a.l {
				bad = a
				bad.l = slices.Clone(a.l)
				bad.l[i].Commits = l
				checkRefused(t, shareCalls(), "l", bad)
			}
		}
	}
}

// TestSharesOfBadShares takes integers that are no exponents at each place of each list of them, some of which have the residues of the right ones.
func TestSharesOfBadShares(t *testing.T) {
	for _, a := range allShareStarts() {
		for use, place := range map[string]func(a *shareArgs) *[]int{
			"coefs":  func(a *shareArgs) *[]int { return &a.coefs },
			"shares": func(a *shareArgs) *[]int { return &a.shares },
			"values": func(a *shareArgs) *[]int { return &a.values },
			"known":  func(a *shareArgs) *[]int { return &a.known },
			"d":      func(a *shareArgs) *[]int { return &a.d.Shares },
			"l": func(a *shareArgs) *[]int {
				a.l = slices.Clone(a.l)
				return &a.l[len(a.l)-1].Shares
			},
		} {
			right := *place(&a)
			lists := [][]int{repeated(0, maxTrustees+1), repeated(0, maxList), repeated(0, maxList+1), repeated(0, 1000)}
			for i, e := range right {
				for _, x := range append(notExponents(a.gr), e+a.gr.Q, e-a.gr.Q) {
					lists = append(lists, replaced(right, i, x))
				}
			}
			for _, l := range lists {
				bad := a
				*place(&bad) = l
				checkRefused(t, shareCalls(), use, bad)
			}
		}
		for _, x := range append(notExponents(a.gr), a.share+a.gr.Q, a.share-a.gr.Q) {
			bad := a
			bad.share = x
			checkRefused(t, shareCalls(), "share", bad)
		}
	}
}

// TestSharesOfNothing takes empty lists where one element is the least number.
func TestSharesOfNothing(t *testing.T) {
	for _, a := range allShareStarts() {
		for _, none := range [][]int{nil, {}} {
			for use, change := range map[string]func(a *shareArgs){
				"coefs":   func(a *shareArgs) { a.coefs = none },
				"values":  func(a *shareArgs) { a.values = none },
				"shares":  func(a *shareArgs) { a.shares = none },
				"indices": func(a *shareArgs) { a.indices = none },
				"d":       func(a *shareArgs) { a.d.Shares = none },
				"l":       func(a *shareArgs) { a.l = nil },
			} {
				bad := a
				change(&bad)
				checkRefused(t, shareCalls(), use, bad)
			}
		}
	}
}

// TestSharesOfBadTrustees takes integers that are no trustees, and too few or too many trustees and coefficients.
func TestSharesOfBadTrustees(t *testing.T) {
	for _, a := range allShareStarts() {
		for _, i := range otherTrustees {
			bad := a
			bad.i = i
			checkRefused(t, shareCalls(), "i", bad)
			for k := range a.indices {
				bad = a
				bad.indices = replaced(a.indices, k, i)
				checkRefused(t, shareCalls(), "indices", bad)
			}
			bad = a
			bad.n, bad.t = i, i
			checkRefused(t, shareCalls(), "n", bad)
			checkRefused(t, shareCalls(), "t", bad)
		}
		bad := a
		bad.n, bad.t = len(a.coefs)-1, 0
		checkRefused(t, shareCalls(), "n", bad)
		checkRefused(t, shareCalls(), "t", bad)
	}
}
