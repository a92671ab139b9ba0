package tests

import (
	"slices"
	"testing"

	"loop.example/g00878/impl"
)

// Promise 12 for invalid arguments, for which each function returns zero values.

// dkgArgs are arguments for all functions of chapter 12: p are the dealings and the answers of the dealers with polys and faults, k their outcome with a trustee i, coefs the polynomial of a dealer with the dealing d and the proof pi.
type dkgArgs struct {
	gr     impl.Group
	polys  [][]int
	faults []impl.Fault
	p      played
	k      impl.KeyGen
	i      int
	coefs  []int
	coin   int
	d      impl.Dealing
	pi     impl.Proof
}

// dkgCalls returns all functions of chapter 12. A check of valid arguments reports true, and the code of the right outcome is 0.
func dkgCalls() []tableCall[dkgArgs] {
	return []tableCall[dkgArgs]{
		{"IsKeyGenInput", []string{"l", "check"}, func(a dkgArgs) outcome {
			is := impl.IsKeyGenInput(a.gr, a.p.l)
			return outcomeOf(is, is)
		}},
		{"PlayDealers", []string{"polys", "faults"}, func(a dkgArgs) outcome { return outcomeOf(play(a.gr, a.polys, a.faults)) }},
		{"ComplaintsIn", []string{"l"}, func(a dkgArgs) outcome { return outcomeOf(impl.ComplaintsIn(a.gr, a.p.l)) }},
		{"QualifiedIn", []string{"l", "answers"}, func(a dkgArgs) outcome { return outcomeOf(impl.QualifiedIn(a.gr, a.p.l, a.p.answers)) }},
		{"CombineKey", []string{"l", "answers"}, func(a dkgArgs) outcome { return outcomeOf(impl.CombineKey(a.gr, a.p.l, a.p.answers)) }},
		{"CheckKeyGen", []string{"l", "answers", "code"}, func(a dkgArgs) outcome {
			return outcomeOf(impl.CheckKeyGen(a.gr, a.p.l, a.p.answers, a.k))
		}},
		{"TrusteeKey", []string{"commits", "i"}, func(a dkgArgs) outcome { return outcomeOf(impl.TrusteeKey(a.gr, a.k, a.i)) }},
		{"ProveDealer", []string{"coefs", "coin"}, func(a dkgArgs) outcome { return outcomeOf(impl.ProveDealer(a.gr, a.coefs, a.coin)) }},
		{"VerifyDealer", []string{"d", "check"}, func(a dkgArgs) outcome { return outcomeOf(impl.VerifyDealer(a.gr, a.d, a.pi)) }},
	}
}

// withGame returns valid arguments with what comes of their polynomials and faults.
func withGame(a dkgArgs) dkgArgs {
	a.p = wantPlayed(a.gr, a.polys, a.faults)
	a.k, _ = wantKeyGen(a.gr, a.p.l, a.p.answers)
	a.coefs = a.polys[0]
	a.d, a.pi = wantDealing(a.gr, a.coefs, len(a.polys)), wantDealerProof(a.gr, a.coefs[0], a.coin)
	return a
}

// dkgStarts returns valid arguments, for which all functions succeed: ordinary ones, the least ones and the longest ones.
func dkgStarts(gr impl.Group) []dkgArgs {
	r, top := someResidues(gr.Q), gr.Q-1
	longest := faultsOf([4]int{7, 7, top, 1}, [4]int{7, 1, 1, 1}, [4]int{2, 3, r[9], 0}, [4]int{7, 7, top, 1})
	for len(longest) < maxFaults {
		longest = append(longest, impl.Fault{Dealer: 1 + len(longest)%2, Trustee: 5, Delta: 1, Answers: true})
	}
	return []dkgArgs{
		withGame(dkgArgs{gr: gr, polys: [][]int{r[4:6], r[6:8], {top, 0}}, faults: faultsOf([4]int{1, 2, top, 1}, [4]int{3, 1, 1, 0}), i: 2, coin: r[8]}),
		withGame(dkgArgs{gr: gr, polys: [][]int{{0}}, i: 1}),
		withGame(dkgArgs{gr: gr, polys: somePolysOf(gr, maxTrustees, maxTrustees), faults: longest, i: maxTrustees, coin: top}),
	}
}

// allDkgStarts returns the valid arguments of all groups in which secrets can be shared.
func allDkgStarts() []dkgArgs {
	var starts []dkgArgs
	for _, gr := range shareGroups() {
		starts = append(starts, dkgStarts(gr)...)
	}
	return starts
}

// TestDkgAccepts shows that the arguments are refused for their faults alone.
func TestDkgAccepts(t *testing.T) {
	for _, a := range allDkgStarts() {
		for _, f := range dkgCalls() {
			got := f.call(a)
			if !got.ok || slices.Contains(f.uses, "check") && got.text != "true" || slices.Contains(f.uses, "code") && got.text != "0" {
				t.Errorf("%s of %+v = %v, %v", f.name, a, got.text, got.ok)
			}
		}
	}
}

func TestDkgOfBadGroups(t *testing.T) {
	for _, gr := range badGroups {
		for _, other := range []impl.Group{exampleGroup, {P: 47, Q: 23, G: 2}} {
			for _, a := range dkgStarts(other) {
				a.gr = gr
				checkRefused(t, dkgCalls(), "", a)
			}
		}
	}
}

// TestDkgOfFewElements takes valid groups whose order is not greater than MaxTrustees, with arguments of the group.
func TestDkgOfFewElements(t *testing.T) {
	for _, gr := range noShareGroups {
		for _, secret := range []int{0, 1} {
			a := withGame(dkgArgs{gr: gr, polys: [][]int{{secret}}, i: 1, coin: 1})
			checkRefused(t, dkgCalls(), "", a)
			a = withGame(dkgArgs{gr: gr, polys: [][]int{{secret, 0}, {1, 1}}, faults: faultsOf([4]int{1, 2, 1, 1}), i: 2, coin: 0})
			checkRefused(t, dkgCalls(), "", a)
		}
		for _, a := range dkgStarts(exampleGroup) {
			a.gr = gr
			checkRefused(t, dkgCalls(), "", a)
		}
	}
}

// TestDkgOfLeastOrder takes groups with the order 11, which is enough for MaxTrustees, and with the order 7, which is not.
func TestDkgOfLeastOrder(t *testing.T) {
	for _, a := range dkgStarts(impl.Group{P: 23, Q: 11, G: 4}) {
		for _, f := range dkgCalls() {
			if got := f.call(a); !got.ok {
				t.Errorf("%s of %+v = %v, false", f.name, a, got.text)
			}
		}
	}
	for _, gr := range []impl.Group{{P: 29, Q: 7, G: 7}, {P: 43, Q: 7, G: 4}} {
		polys := [][]int{{6, 1}, {0, 5}, {3, 3}}
		checkRefused(t, dkgCalls(), "", withGame(dkgArgs{gr: gr, polys: polys, faults: faultsOf([4]int{1, 3, 6, 1}), i: 3, coin: 6}))
	}
}

// TestDkgOfBadDealings takes dealings with integers that are no elements or no exponents at each place, with too few or too many of them, and dealings that are not alike.
func TestDkgOfBadDealings(t *testing.T) {
	for _, a := range allDkgStarts() {
		for i, d := range a.p.l {
			for _, other := range badDealings(a.gr, d) {
				bad := a
				bad.p.l = slices.Replace(slices.Clone(a.p.l), i, i+1, other)
				checkRefused(t, dkgCalls(), "l", bad)
			}
		}
		for _, other := range badDealings(a.gr, a.d) {
			// A single dealing may have other numbers.
			if !impl.IsValidDealing(a.gr, other) {
				bad := a
				bad.d = other
				checkRefused(t, dkgCalls(), "d", bad)
			}
		}
		for _, l := range [][]impl.Dealing{nil, {}, a.p.l[1:], append(slices.Clone(a.p.l), a.p.l[0]), slices.Repeat(a.p.l, 8)} {
			bad := a
			bad.p = played{l, make([][]int, len(l))}
			checkRefused(t, dkgCalls(), "l", bad)
			bad.p.answers = a.p.answers
			checkRefused(t, dkgCalls(), "l", bad)
		}
	}
}

// badDealings returns dealings that are not valid, or have another number of commitments or shares than a right one.
func badDealings(gr impl.Group, d impl.Dealing) []impl.Dealing {
	var l []impl.Dealing
	for _, commits := range append(badVariants(d.Commits, notElements(gr)), repeated(1, len(d.Shares)+1), repeated(1, maxTrustees+1)) {
		l = append(l, impl.Dealing{Commits: commits, Shares: d.Shares})
	}
	for _, shares := range append(badVariants(d.Shares, notExponents(gr)), repeated(0, maxTrustees+1)) {
		l = append(l, impl.Dealing{Commits: d.Commits, Shares: shares})
	}
	return l
}

// TestDkgOfBadPolys takes polynomials with integers that are no exponents at each place, empty ones, ones of other lengths, and too few or too many.
func TestDkgOfBadPolys(t *testing.T) {
	for _, a := range allDkgStarts() {
		n := len(a.polys)
		lists := [][][]int{nil, {}, make([][]int, n), slices.Repeat(a.polys[:1], maxTrustees+1), slices.Repeat(a.polys, 8), slices.Repeat([][]int{repeated(0, n+1)}, n)}
		for i, f := range a.polys {
			others := [][]int{nil, {}, append(slices.Clone(f), 0), repeated(0, maxTrustees+1), repeated(0, 1000)}
			for k := range f {
				for _, x := range append(notExponents(a.gr), f[k]+a.gr.Q, f[k]-a.gr.Q) {
					others = append(others, replaced(f, k, x))
				}
			}
			for _, other := range others {
				lists = append(lists, slices.Replace(slices.Clone(a.polys), i, i+1, other))
			}
		}
		for _, polys := range lists {
			bad := a
			bad.polys, bad.faults = polys, nil
			checkRefused(t, dkgCalls(), "polys", bad)
		}
		for _, x := range slices.Concat(notExponents(a.gr), []int{a.coefs[0] + a.gr.Q, a.coefs[0] - a.gr.Q}) {
			for i := range a.coefs {
				bad := a
				bad.coefs = replaced(a.coefs, i, x)
				checkRefused(t, dkgCalls(), "coefs", bad)
			}
			bad := a
			bad.coin = x
			checkRefused(t, dkgCalls(), "coin", bad)
		}
		for _, coefs := range [][]int{nil, {}, repeated(0, maxTrustees+1), repeated(0, 1000)} {
			bad := a
			bad.coefs = coefs
			checkRefused(t, dkgCalls(), "coefs", bad)
		}
	}
}

// TestDkgOfBadFaults takes one fault that is not possible at each place, and too many.
func TestDkgOfBadFaults(t *testing.T) {
	for _, a := range allDkgStarts() {
		n := len(a.polys)
		lists := [][]impl.Fault{slices.Repeat(faultsOf([4]int{1, 1, 0, 1}), maxFaults+1)}
		for i, f := range a.faults {
			var others []impl.Fault
			for _, x := range notExponents(a.gr) {
				others = append(others, impl.Fault{Dealer: f.Dealer, Trustee: f.Trustee, Delta: x, Answers: f.Answers})
			}
			for _, x := range append(otherTrustees, 0, n+1) {
				others = append(others, impl.Fault{Dealer: x, Trustee: f.Trustee, Delta: f.Delta, Answers: f.Answers}, impl.Fault{Dealer: f.Dealer, Trustee: x, Delta: f.Delta, Answers: f.Answers})
			}
			for _, other := range others {
				lists = append(lists, slices.Replace(slices.Clone(a.faults), i, i+1, other))
			}
		}
		for _, faults := range lists {
			bad := a
			bad.faults = faults
			checkRefused(t, dkgCalls(), "faults", bad)
		}
	}
}

// TestDkgOfBadAnswers takes lists of answers that are too many, too few or too long, or that have integers that are no exponents.
func TestDkgOfBadAnswers(t *testing.T) {
	for _, a := range allDkgStarts() {
		n := len(a.p.l)
		lists := [][][]int{nil, make([][]int, n-1), make([][]int, n+1), append(slices.Clone(a.p.answers), nil), a.p.answers[:n-1], make([][]int, 1000)}
		for i, given := range a.p.answers {
			others := [][]int{repeated(0, maxTrustees+1), repeated(0, maxList+1), repeated(0, 1000)}
			for _, x := range notExponents(a.gr) {
				others = append(others, append(slices.Clone(given), x), inserted(given, 0, x), []int{x})
			}
			for _, other := range others {
				lists = append(lists, slices.Replace(slices.Clone(a.p.answers), i, i+1, other))
			}
		}
		for _, answers := range lists {
			bad := a
			bad.p.answers = answers
			checkRefused(t, dkgCalls(), "answers", bad)
		}
	}
}

// TestDkgOfBadTrustees takes integers that are no trustees, and commitments of an outcome that are none, too many or no elements.
func TestDkgOfBadTrustees(t *testing.T) {
	for _, a := range allDkgStarts() {
		for _, i := range append(otherTrustees, 0) {
			bad := a
			bad.i = i
			checkRefused(t, dkgCalls(), "i", bad)
		}
		lists := [][]int{nil, {}, repeated(1, maxTrustees+1), repeated(1, maxList), repeated(1, 1000)}
		for i, c := range a.k.Commits {
			for _, x := range append(notElements(a.gr), c+a.gr.P, c-a.gr.P) {
				lists = append(lists, replaced(a.k.Commits, i, x))
			}
		}
		for _, commits := range lists {
			bad := a
			bad.k.Commits = commits
			checkRefused(t, dkgCalls(), "commits", bad)
		}
	}
}
