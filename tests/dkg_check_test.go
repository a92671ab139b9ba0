package tests

import (
	"fmt"
	"slices"
	"testing"

	"loop.example/g00878/impl"
)

// Promise 12 for CheckKeyGen, TrusteeKey and the proofs of dealers.

// wantCode returns the first code that applies to an outcome. Unlike the program, it begins with the last one.
func wantCode(right impl.KeyGen, k impl.KeyGen) int {
	code := impl.KgDone
	if !slices.Equal(right.Shares, k.Shares) {
		code = impl.KgShares
	}
	if !slices.Equal(right.Commits, k.Commits) {
		code = impl.KgCommits
	}
	if right.Key != k.Key {
		code = impl.KgKey
	}
	if !slices.Equal(right.Qualified, k.Qualified) {
		code = impl.KgQualified
	}
	return code
}

// checkCode fails unless an outcome has the wanted code.
func checkCode(t *testing.T, gr impl.Group, p played, k impl.KeyGen, want int) {
	t.Helper()
	got, ok := impl.CheckKeyGen(gr, p.l, p.answers, k)
	checkInt(t, fmt.Sprintf("CheckKeyGen(%v, %v, %v, %v)", gr, p.l, p.answers, k), want, got, ok)
}

func TestCheckKeyGenExamples(t *testing.T) {
	p := played{pairOf([]int{4, 6}, []int{6, 8}), [][]int{{5}, nil}}
	both, key, commits, shares := []int{1, 2}, 13, []int{13, 8}, []int{10, 2}
	for _, c := range []struct {
		k    impl.KeyGen
		want int
	}{
		{impl.KeyGen{Qualified: both, Key: key, Commits: commits, Shares: shares}, impl.KgDone},
		{impl.KeyGen{Qualified: []int{2}, Key: key, Commits: commits, Shares: shares}, impl.KgQualified},
		{impl.KeyGen{Qualified: []int{2, 1}, Key: key, Commits: commits, Shares: shares}, impl.KgQualified},
		{impl.KeyGen{Qualified: both, Key: 8, Commits: commits, Shares: shares}, impl.KgKey},
		{impl.KeyGen{Qualified: both, Key: key, Commits: []int{13, 13}, Shares: shares}, impl.KgCommits},
		{impl.KeyGen{Qualified: both, Key: key, Commits: []int{13}, Shares: shares}, impl.KgCommits},
		{impl.KeyGen{Qualified: both, Key: key, Commits: []int{8, 13}, Shares: shares}, impl.KgCommits},
		{impl.KeyGen{Qualified: both, Key: key, Commits: commits, Shares: []int{10, 3}}, impl.KgShares},
		{impl.KeyGen{Qualified: both, Key: key, Commits: commits, Shares: []int{2, 10}}, impl.KgShares},
		{impl.KeyGen{Qualified: both, Key: key, Commits: commits}, impl.KgShares},
		{impl.KeyGen{Qualified: both, Key: 8, Commits: []int{8, 8}, Shares: []int{10, 3}}, impl.KgKey},
		{impl.KeyGen{Qualified: both, Key: 8, Commits: commits, Shares: []int{10, 3}}, impl.KgKey},
		{impl.KeyGen{Qualified: both, Key: key, Commits: []int{8, 8}, Shares: []int{10, 3}}, impl.KgCommits},
		{impl.KeyGen{Qualified: []int{2}, Key: 16, Commits: []int{16, 4}, Shares: []int{6, 8}}, impl.KgQualified},
		{impl.KeyGen{Qualified: []int{1, 2, 3}, Key: key, Commits: commits, Shares: []int{10, 3}}, impl.KgQualified},
		{impl.KeyGen{Key: key, Commits: commits, Shares: shares}, impl.KgQualified},
		{impl.KeyGen{Qualified: both}, impl.KgKey},
		{impl.KeyGen{}, impl.KgQualified},
	} {
		checkCode(t, exampleGroup, p, c.k, c.want)
	}
}

// changesOf returns lists that differ from a list: in one element, in their length or in their order.
func changesOf(l []int) [][]int {
	changes := [][]int{nil, {}, l[:len(l)-1], append(slices.Clone(l), 0), append(slices.Clone(l), l...), repeated(l[0], 1000)}
	for i, x := range l {
		for _, other := range []int{x + 1, x - 1, 0, -x, -1 << 63, 1<<63 - 1} {
			changes = append(changes, replaced(l, i, other))
		}
		changes = append(changes, removed(l, i), inserted(l, i, x))
	}
	changes = append(changes, reversed(l))
	return slices.DeleteFunc(changes, func(other []int) bool { return slices.Equal(other, l) })
}

// someGames returns key generations with their outcomes: honest ones, and ones in which some dealers are disqualified.
func someGames(gr impl.Group) []played {
	var games []played
	for _, n := range []int{1, 2, 4, maxTrustees} {
		k := (n + 1) / 2
		games = append(games, wantPlayed(gr, somePolysOf(gr, n, k), nil), wantPlayed(gr, somePolysOf(gr, n, n), someFaults(gr, n, n-1, 0)), wantPlayed(gr, somePolysOf(gr, n, k), someFaults(gr, n, n-1, 0b0101010)))
	}
	return slices.DeleteFunc(games, func(p played) bool {
		_, ok := wantKeyGen(gr, p.l, p.answers)
		return !ok
	})
}

// TestCheckKeyGenOfOneChange changes each part of an outcome alone.
func TestCheckKeyGenOfOneChange(t *testing.T) {
	for _, gr := range shareGroups() {
		for _, p := range someGames(gr) {
			right, _ := wantKeyGen(gr, p.l, p.answers)
			checkCode(t, gr, p, right, impl.KgDone)
			for _, l := range changesOf(right.Qualified) {
				k := right
				k.Qualified = l
				checkCode(t, gr, p, k, impl.KgQualified)
			}
			for _, x := range append(notElements(gr), right.Key+gr.P, right.Key-gr.P, right.Key*gr.G%gr.P, -right.Key) {
				k := right
				k.Key = x
				checkCode(t, gr, p, k, impl.KgKey)
			}
			for _, l := range changesOf(right.Commits) {
				k := right
				k.Commits = l
				checkCode(t, gr, p, k, impl.KgCommits)
			}
			for _, l := range changesOf(right.Shares) {
				k := right
				k.Shares = l
				checkCode(t, gr, p, k, impl.KgShares)
			}
		}
	}
}

// TestCheckKeyGenOfSeveralChanges changes all sets of parts of an outcome.
func TestCheckKeyGenOfSeveralChanges(t *testing.T) {
	for _, gr := range shareGroups() {
		for _, p := range someGames(gr) {
			right, _ := wantKeyGen(gr, p.l, p.answers)
			for which := range 1 << 4 {
				for i := range 8 {
					k := right
					if which&1 != 0 {
						k.Qualified = changesOf(right.Qualified)[i]
					}
					if which&2 != 0 {
						k.Key += i - 9
					}
					if which&4 != 0 {
						k.Commits = changesOf(right.Commits)[i]
					}
					if which&8 != 0 {
						k.Shares = changesOf(right.Shares)[i]
					}
					want := []int{impl.KgDone, impl.KgQualified, impl.KgKey, impl.KgQualified, impl.KgCommits, impl.KgQualified, impl.KgKey, impl.KgQualified}[which&7]
					if which == 8 {
						want = impl.KgShares
					}
					checkCode(t, gr, p, k, want)
				}
			}
		}
	}
}

// TestCheckKeyGenOfOtherOutcomes takes the outcomes of other key generations, and other key generations for an outcome.
func TestCheckKeyGenOfOtherOutcomes(t *testing.T) {
	for _, gr := range shareGroups() {
		games := someGames(gr)
		for _, p := range games {
			right, _ := wantKeyGen(gr, p.l, p.answers)
			for _, other := range games {
				k, _ := wantKeyGen(gr, other.l, other.answers)
				checkCode(t, gr, p, k, wantCode(right, k))
			}
		}
	}
}

// TestCheckKeyGenOfTheSumOfAll takes the outcome that has the dealings of disqualified dealers in it, and the one with the wrong shares instead of the answers.
func TestCheckKeyGenOfTheSumOfAll(t *testing.T) {
	for _, gr := range shareGroups() {
		polys := somePolysOf(gr, 3, 2)
		p := wantPlayed(gr, polys, faultsOf([4]int{2, 1, 1, 0}))
		sum := wantDealingSum(gr, p.l)
		right, _ := wantKeyGen(gr, p.l, p.answers)
		checkCode(t, gr, p, impl.KeyGen{Qualified: []int{1, 2, 3}, Key: sum.Commits[0], Commits: sum.Commits, Shares: sum.Shares}, impl.KgQualified)
		k := impl.KeyGen{Qualified: []int{1, 3}, Key: sum.Commits[0], Commits: sum.Commits, Shares: sum.Shares}
		checkCode(t, gr, p, k, wantCode(right, k))
		p = wantPlayed(gr, polys, faultsOf([4]int{2, 1, 1, 1}))
		sum = wantDealingSum(gr, p.l)
		checkCode(t, gr, p, impl.KeyGen{Qualified: []int{1, 2, 3}, Key: sum.Commits[0], Commits: sum.Commits, Shares: sum.Shares}, impl.KgShares)
	}
}

func TestTrusteeKeyExamples(t *testing.T) {
	for _, c := range []struct {
		gr      impl.Group
		commits []int
		want    []int
	}{
		{exampleGroup, []int{13, 8}, []int{12, 4, 9, 3, 1, 8, 18}},
		{exampleGroup, []int{13}, []int{13, 13, 13, 13, 13, 13, 13}},
		{exampleGroup, []int{1, 1}, []int{1, 1, 1, 1, 1, 1, 1}},
		{exampleGroup, []int{8, 9}, []int{3, 4, 13, 2, 18, 1, 9}},
		{topGroup, []int{962152726, 499999596, 1276408233}, []int{447292575, 824117564, 538234925, 329977474, 1404384169, 894790698, 1988744183}},
	} {
		for i, want := range c.want {
			got, ok := impl.TrusteeKey(c.gr, impl.KeyGen{Commits: c.commits}, i+1)
			checkInt(t, fmt.Sprintf("TrusteeKey(%v, %v, %d)", c.gr, c.commits, i+1), want, got, ok)
		}
	}
}

// TestTrusteeKeysOfOutcomes takes outcomes, for which it is the power of G with the share.
func TestTrusteeKeysOfOutcomes(t *testing.T) {
	for _, gr := range shareGroups() {
		for _, p := range someGames(gr) {
			k, ok := impl.CombineKey(gr, p.l, p.answers)
			for i, share := range k.Shares {
				got, fine := impl.TrusteeKey(gr, k, i+1)
				checkInt(t, fmt.Sprintf("TrusteeKey(%v, %v, %d)", gr, k, i+1), wantPower(gr.G, share, gr.P), got, ok && fine)
			}
		}
	}
}

// TestTrusteeKeyOfAnyCommits takes any elements as commitments, and all trustees, also those without a share. The other parts of the outcome do not matter.
func TestTrusteeKeyOfAnyCommits(t *testing.T) {
	for _, gr := range shareGroups() {
		for many := 1; many <= maxTrustees; many++ {
			commits := someElements(gr)[many : 2*many]
			for i := 1; i <= maxTrustees; i++ {
				for _, k := range []impl.KeyGen{{Commits: commits}, {Qualified: []int{-1}, Key: -1, Commits: commits, Shares: []int{-1}}, {Qualified: []int{1, 2}, Key: commits[0], Commits: commits, Shares: repeated(1, 100)}} {
					got, ok := impl.TrusteeKey(gr, k, i)
					checkInt(t, fmt.Sprintf("TrusteeKey(%v, %v, %d)", gr, k, i), wantCommitAt(gr, commits, i), got, ok)
				}
			}
		}
	}
}

// TestTrusteeKeyOfOtherTrustees takes integers that are no trustees, 0 among them, and commitments that are none, too many or no elements.
func TestTrusteeKeyOfOtherTrustees(t *testing.T) {
	for _, gr := range shareGroups() {
		check := func(commits []int, i int) {
			t.Helper()
			k := impl.KeyGen{Qualified: []int{1}, Key: gr.G, Commits: commits, Shares: []int{1}}
			got, ok := impl.TrusteeKey(gr, k, i)
			checkNoInt(t, fmt.Sprintf("TrusteeKey(%v, %v, %d)", gr, k, i), got, ok)
		}
		for _, i := range append(otherTrustees, 0) {
			for _, commits := range [][]int{{1}, {gr.G}, {gr.G, 1, gr.G}, repeated(gr.G, maxTrustees)} {
				check(commits, i)
			}
		}
		for i := 1; i <= maxTrustees; i++ {
			for _, many := range []int{0, maxTrustees + 1, maxTrustees + 2, maxList, maxList + 1, 1000} {
				check(repeated(1, many), i)
				check(repeated(gr.G, many), i)
			}
			for _, x := range notElements(gr) {
				check([]int{x}, i)
				check([]int{x, 1}, i)
				check([]int{1, 1, x}, i)
			}
		}
	}
}

func TestProveDealerExamples(t *testing.T) {
	for _, c := range []struct {
		gr    impl.Group
		coefs []int
		coin  int
		want  impl.Proof
	}{
		{exampleGroup, []int{3, 1}, 4, proofOf([]int{16}, []int{9}, []int{9})},
		{exampleGroup, []int{3}, 4, proofOf([]int{16}, []int{9}, []int{9})},
		{exampleGroup, []int{0, 5}, 0, proofOf([]int{1}, []int{7}, []int{0})},
		{exampleGroup, repeated(10, maxTrustees), 10, proofOf([]int{12}, []int{9}, []int{1})},
		{exampleGroup, []int{7, 1, 2}, 1, proofOf([]int{2}, []int{8}, []int{2})},
		{impl.Group{P: 47, Q: 23, G: 2}, []int{22, 5}, 13, proofOf([]int{14}, []int{22}, []int{14})},
		{topGroup, []int{123456789, 1}, 999999190, proofOf([]int{499999596}, []int{844236005}, []int{654928694})},
		{topGroup, []int{999999190}, 0, proofOf([]int{1}, []int{837582657}, []int{162416534})},
	} {
		got, ok := impl.ProveDealer(c.gr, c.coefs, c.coin)
		checkProof(t, fmt.Sprintf("ProveDealer(%v, %v, %d)", c.gr, c.coefs, c.coin), c.want, got, ok)
	}
}

// wantDealerProof returns the proof of a dealer.
func wantDealerProof(gr impl.Group, secret int, coin int) impl.Proof {
	return wantLinear(gr, "dealer", [][]int{{gr.G}}, []int{secret}, []int{coin})
}

// isDealerProof reports whether a proof of a dealer with a first commitment is right.
func isDealerProof(gr impl.Group, y int, p impl.Proof) bool {
	return isLinearProof(gr, "dealer", [][]int{{gr.G}}, []int{y}, p)
}

// checkDealer compares the proof of a dealer with the expected one, and verifies it for the dealing of the polynomial.
func checkDealer(t *testing.T, gr impl.Group, coefs []int, coin int) {
	t.Helper()
	name := fmt.Sprintf("ProveDealer(%v, %v, %d)", gr, coefs, coin)
	p, ok := impl.ProveDealer(gr, coefs, coin)
	checkProof(t, name, wantDealerProof(gr, coefs[0], coin), p, ok)
	known, ok := impl.ProveKnowledge(gr, "dealer", gr.G, coefs[0], coin)
	checkProof(t, name, known, p, ok)
	accepted, ok := impl.VerifyDealer(gr, wantDealing(gr, coefs, maxTrustees), p)
	checkVerdict(t, "VerifyDealer of "+name, true, accepted, ok)
}

// TestDealersOfSmallGroups takes all secrets and all coins.
func TestDealersOfSmallGroups(t *testing.T) {
	for _, gr := range shareGroups() {
		if gr.Q > 29 {
			continue
		}
		for secret := range gr.Q {
			for coin := range gr.Q {
				checkDealer(t, gr, []int{secret, gr.Q - 1, 1}[:1+coin%3], coin)
			}
		}
	}
}

func TestDealersOfAllGroups(t *testing.T) {
	for _, gr := range shareGroups() {
		for k := 1; k <= maxTrustees; k++ {
			for _, f := range someSecretPolys(gr, k) {
				for _, coin := range someResidues(gr.Q)[:8] {
					checkDealer(t, gr, f, coin)
				}
			}
		}
	}
}

// TestProveDealerOfOtherNumbers takes no coefficient, one, MaxTrustees and more.
func TestProveDealerOfOtherNumbers(t *testing.T) {
	for _, gr := range shareGroups() {
		for _, k := range append(counting(maxTrustees+3), maxList, maxList+1, 1000) {
			for _, coefs := range [][]int{repeated(0, k), repeated(gr.Q-1, k)} {
				if 1 <= k && k <= maxTrustees {
					checkDealer(t, gr, coefs, 1)
					continue
				}
				p, ok := impl.ProveDealer(gr, coefs, 1)
				checkNone(t, fmt.Sprintf("ProveDealer(%v, %v, 1)", gr, coefs), p, ok)
			}
		}
	}
}

// TestProveDealerOfBadExponents takes integers that are no exponents as the coin and at each place of the coefficients, of which only the first one is the secret.
func TestProveDealerOfBadExponents(t *testing.T) {
	for _, gr := range shareGroups() {
		for k := 1; k <= maxTrustees; k++ {
			coefs := someResidues(gr.Q)[4 : 4+k]
			for _, x := range append(notExponents(gr), 2*gr.Q, coefs[0]+gr.Q, coefs[0]-gr.Q) {
				p, ok := impl.ProveDealer(gr, coefs, x)
				checkNone(t, fmt.Sprintf("ProveDealer(%v, %v, %d)", gr, coefs, x), p, ok)
				for i := range coefs {
					p, ok := impl.ProveDealer(gr, replaced(coefs, i, x), 1)
					checkNone(t, fmt.Sprintf("ProveDealer(%v, %v with %d at %d, 1)", gr, coefs, x, i), p, ok)
				}
			}
		}
	}
}

// provenDealer returns the dealing of a polynomial with the proof of its dealer.
func provenDealer(gr impl.Group, f []int, n int, coin int) proven {
	d := wantDealing(gr, f, n)
	return proven{
		name:   fmt.Sprintf("VerifyDealer(%v, %v)", gr, d),
		gr:     gr,
		p:      wantDealerProof(gr, f[0], coin),
		free:   []bool{false},
		verify: func(p impl.Proof) (bool, bool) { return impl.VerifyDealer(gr, d, p) },
		want:   func(p impl.Proof) bool { return isDealerProof(gr, d.Commits[0], p) },
	}
}

// someDealers returns dealings with the proofs of their dealers.
func someDealers(gr impl.Group) []proven {
	exps := someResidues(gr.Q)[4:]
	return []proven{provenDealer(gr, exps[:2], 3, exps[2]), provenDealer(gr, []int{0}, 1, exps[3]), provenDealer(gr, exps[5:5+maxTrustees], maxTrustees, 0), provenDealer(gr, []int{gr.Q - 1, 0, 1}, 4, 1)}
}

// TestDealersAreAccepted shows that the changed proofs are refused for the changes alone.
func TestDealersAreAccepted(t *testing.T) {
	for _, gr := range shareGroups() {
		for _, s := range someDealers(gr) {
			got, ok := s.verify(s.p)
			checkVerdict(t, fmt.Sprint(s.name, " of ", s.p), true, got, ok)
			checkVerdict(t, fmt.Sprint("the reference of ", s.name, " of ", s.p), true, s.want(s.p), true)
		}
	}
}

// TestChangedProofsOfDealers takes other commits, challenges, responses, lengths and orders.
func TestChangedProofsOfDealers(t *testing.T) {
	for _, gr := range shareGroups() {
		for _, s := range someDealers(gr) {
			s.checkCommits(t)
			s.checkChallenges(t)
			s.checkResponses(t)
			s.checkLengths(t)
			s.checkExchanged(t)
		}
	}
}

// TestAllProofsOfDealers verifies all proofs of the right form for all first commitments.
func TestAllProofsOfDealers(t *testing.T) {
	proofs, accepted := allProofs(exampleGroup, 1, 1, 1), 0
	for _, y := range elementsIn(exampleGroup) {
		d := impl.Dealing{Commits: []int{y, 3}, Shares: []int{1, 2}}
		for _, p := range proofs {
			got, ok := impl.VerifyDealer(exampleGroup, d, p)
			checkVerdict(t, fmt.Sprintf("VerifyDealer(%v, %v)", d, p), isDealerProof(exampleGroup, y, p), got, ok)
			if got {
				accepted++
			}
		}
	}
	// There is one challenge for each commit, and with it one response.
	if want := 11 * 11; accepted != want {
		t.Errorf("%d proofs are accepted; want %d", accepted, want)
	}
}

// TestProofsOfOtherDealers takes the proofs of other dealers, with the same coin, and those of other labels and bases.
func TestProofsOfOtherDealers(t *testing.T) {
	for _, gr := range shareGroups() {
		polys := somePolysOf(gr, maxTrustees, 3)
		for i, f := range polys {
			d := wantDealing(gr, f, maxTrustees)
			for _, g := range polys {
				p, _ := impl.ProveDealer(gr, g, 5)
				got, ok := impl.VerifyDealer(gr, d, p)
				checkVerdict(t, fmt.Sprintf("VerifyDealer(%v, %v) of the proof of %v", gr, d, g), isDealerProof(gr, d.Commits[0], p), got, ok)
				if gr.Q > 1000000 || f[0] == g[0] {
					checkVerdict(t, fmt.Sprintf("VerifyDealer(%v, %v) of the proof of %v", gr, d, g), f[0] == g[0], got, ok)
				}
			}
			base := basesIn(gr)[i+4]
			for _, p := range []impl.Proof{
				wantLinear(gr, "", [][]int{{gr.G}}, f[:1], []int{5}), wantLinear(gr, "Dealer", [][]int{{gr.G}}, f[:1], []int{5}), wantLinear(gr, "dealer ", [][]int{{gr.G}}, f[:1], []int{5}),
				wantLinear(gr, "dealer", [][]int{{base}}, f[:1], []int{5}), wantLinear(gr, "dealer", [][]int{{gr.G}}, f[1:2], []int{5}), wantLinear(gr, "dealer", [][]int{{gr.G}, {gr.G}}, f[:1], []int{5}), wantLinear(gr, "dealer", [][]int{{gr.G, base}}, f[:2], []int{5, 6}), {},
			} {
				got, ok := impl.VerifyDealer(gr, d, p)
				checkVerdict(t, fmt.Sprintf("VerifyDealer(%v, %v, %v)", gr, d, p), isDealerProof(gr, d.Commits[0], p), got, ok)
			}
		}
	}
}

// TestProofsOfDealersOfWrongShares takes dealings with wrong shares and other commitments behind the first one, for which the proof is right.
func TestProofsOfDealersOfWrongShares(t *testing.T) {
	for _, gr := range shareGroups() {
		p := wantDealerProof(gr, 3, 4)
		y := wantPower(gr.G, 3, gr.P)
		for n := 1; n <= maxTrustees; n++ {
			for k := 1; k <= n; k++ {
				d := impl.Dealing{Commits: append([]int{y}, someElements(gr)[5:4+k]...), Shares: someResidues(gr.Q)[:n]}
				got, ok := impl.VerifyDealer(gr, d, p)
				checkVerdict(t, fmt.Sprintf("VerifyDealer(%v, %v, %v)", gr, d, p), true, got, ok)
			}
		}
	}
}

// TestProofsOfDealersOfBadDealings takes dealings that are not valid, with the proof that is right for the first commitment.
func TestProofsOfDealersOfBadDealings(t *testing.T) {
	for _, gr := range shareGroups() {
		p := wantDealerProof(gr, 1, 4)
		check := func(d impl.Dealing) {
			t.Helper()
			got, ok := impl.VerifyDealer(gr, d, p)
			checkNone(t, fmt.Sprintf("VerifyDealer(%v, %v, %v)", gr, d, p), got, ok)
		}
		for k := range maxTrustees + 3 {
			for n := range maxTrustees + 3 {
				if k == 0 || k > n || n > maxTrustees {
					check(impl.Dealing{Commits: repeated(gr.G, k), Shares: repeated(1, n)})
				}
			}
		}
		for _, x := range append(notElements(gr), gr.G+gr.P, gr.G-gr.P) {
			check(impl.Dealing{Commits: []int{x}, Shares: []int{1}})
			check(impl.Dealing{Commits: []int{gr.G, x}, Shares: []int{1, 2}})
		}
		for _, x := range notExponents(gr) {
			check(impl.Dealing{Commits: []int{gr.G}, Shares: []int{x}})
			check(impl.Dealing{Commits: []int{gr.G}, Shares: []int{1, 2, x}})
		}
	}
}
