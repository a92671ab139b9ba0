package tests

import (
	"fmt"
	"slices"
	"testing"

	"loop.example/g00878/impl"
)

// Promise 12 for ComplaintsIn, QualifiedIn and CombineKey: honest dealers are qualified, and the shares of the outcome fit its commitments.

// wantBadShares returns the trustees whose shares in a dealing are wrong, by big integers.
func wantBadShares(gr impl.Group, d impl.Dealing) []int {
	var bad []int
	for i, share := range d.Shares {
		if wantPower(gr.G, share, gr.P) != wantCommitAt(gr, d.Commits, i+1) {
			bad = append(bad, i+1)
		}
	}
	return bad
}

// wantSettled returns a dealing with the answers in the place of the wrong shares, and whether its dealer is qualified.
func wantSettled(gr impl.Group, d impl.Dealing, answers []int) (impl.Dealing, bool) {
	bad := wantBadShares(gr, d)
	if len(answers) != len(bad) {
		return d, false
	}
	settled := impl.Dealing{Commits: d.Commits, Shares: slices.Clone(d.Shares)}
	for k, i := range bad {
		settled.Shares[i-1] = answers[k]
	}
	return settled, len(bad) < len(d.Commits) && len(wantBadShares(gr, settled)) == 0
}

// wantKeyGen returns the outcome of a key generation, and whether there is a qualified dealer.
func wantKeyGen(gr impl.Group, l []impl.Dealing, answers [][]int) (impl.KeyGen, bool) {
	var k impl.KeyGen
	var settled []impl.Dealing
	for i, d := range l {
		if s, isQualified := wantSettled(gr, d, answers[i]); isQualified {
			k.Qualified, settled = append(k.Qualified, i+1), append(settled, s)
		}
	}
	if len(settled) == 0 {
		return impl.KeyGen{}, false
	}
	sum := wantDealingSum(gr, settled)
	k.Key, k.Commits, k.Shares = sum.Commits[0], sum.Commits, sum.Shares
	return k, true
}

// checkSame fails unless a call returned what is wanted, and true.
func checkSame[T any](t *testing.T, name string, want T, got T, ok bool) {
	t.Helper()
	if !ok || !same(got, want) {
		t.Errorf("%s = %v, %v; want %v, true", name, got, ok, want)
	}
}

// checkOutcome compares the qualified dealers and the outcome of a key generation with the expected ones, and returns the outcome. Its shares fit its commitments.
func checkOutcome(t *testing.T, gr impl.Group, l []impl.Dealing, answers [][]int) impl.KeyGen {
	t.Helper()
	name := fmt.Sprintf("(%v, %v, %v)", gr, l, answers)
	want, isKey := wantKeyGen(gr, l, answers)
	qualified, ok := impl.QualifiedIn(gr, l, answers)
	checkList(t, "QualifiedIn"+name, want.Qualified, qualified, ok)
	got, ok := impl.CombineKey(gr, l, answers)
	code, fine := impl.CheckKeyGen(gr, l, answers, got)
	if !isKey {
		checkNone(t, "CombineKey"+name, got, ok)
		checkNone(t, "CheckKeyGen"+name, code, fine)
		return got
	}
	checkSame(t, "CombineKey"+name, want, got, ok)
	checkInt(t, "CheckKeyGen"+name, impl.KgDone, code, fine)
	bad, ok := impl.BadShares(gr, impl.Dealing{Commits: got.Commits, Shares: got.Shares})
	checkList(t, "BadShares of CombineKey"+name, nil, bad, ok)
	return got
}

// checkComplaints compares the complaints with the wrong shares of each dealing.
func checkComplaints(t *testing.T, gr impl.Group, l []impl.Dealing) {
	t.Helper()
	var want [][]int
	for _, d := range l {
		want = append(want, wantBadShares(gr, d))
	}
	got, ok := impl.ComplaintsIn(gr, l)
	checkSame(t, fmt.Sprintf("ComplaintsIn(%v, %v)", gr, l), want, got, ok)
}

// checkGame plays dealers and checks what comes of it: the qualified dealers are those that answer and have fewer wrong shares than the threshold, and the shared secret is the sum of their secrets.
func checkGame(t *testing.T, gr impl.Group, polys [][]int, faults []impl.Fault) {
	t.Helper()
	p := checkPlayed(t, gr, polys, faults)
	var qualified, secrets []int
	var complaints [][]int
	for k, f := range polys {
		var wrong []int
		for i, share := range wantValues(gr.Q, f, firstTrustees(len(polys))) {
			if p.l[k].Shares[i] != share {
				wrong = append(wrong, i+1)
			}
		}
		complaints = append(complaints, wrong)
		isSilent := slices.ContainsFunc(faults, func(f impl.Fault) bool { return f.Dealer == k+1 && !f.Answers })
		if len(wrong) == 0 || !isSilent && len(wrong) < len(f) {
			qualified, secrets = append(qualified, k+1), append(secrets, f[0])
		}
	}
	name := fmt.Sprintf("the game %v, %v in %v", polys, faults, gr)
	got, ok := impl.ComplaintsIn(gr, p.l)
	checkSame(t, "ComplaintsIn of "+name, complaints, got, ok)
	k := checkOutcome(t, gr, p.l, p.answers)
	checkList(t, "the qualified dealers of "+name, qualified, k.Qualified, true)
	if len(qualified) > 0 {
		secret, ok := impl.Reconstruct(gr, k.Commits, firstTrustees(len(polys)), k.Shares)
		checkInt(t, "the secret of "+name, wantSumOf(gr, secrets), secret, ok)
		checkInt(t, "the key of "+name, wantPower(gr.G, wantSumOf(gr, secrets), gr.P), k.Key, true)
	}
}

func TestKeyGenExamples(t *testing.T) {
	for _, c := range exampleGames() {
		name := fmt.Sprintf("%v, %v, %v", c.gr, c.polys, c.faults)
		complaints, ok := impl.ComplaintsIn(c.gr, c.want.l)
		checkSame(t, "ComplaintsIn of "+name, c.bad, complaints, ok)
		qualified, ok := impl.QualifiedIn(c.gr, c.want.l, c.want.answers)
		checkList(t, "QualifiedIn of "+name, c.key.Qualified, qualified, ok)
		k, ok := impl.CombineKey(c.gr, c.want.l, c.want.answers)
		if c.key.Key == 0 {
			checkNone(t, "CombineKey of "+name, k, ok)
		} else {
			checkSame(t, "CombineKey of "+name, c.key, k, ok)
		}
		checkGame(t, c.gr, c.polys, c.faults)
	}
}

// TestHonestDealersAreQualified takes dealers without faults: all of them are qualified.
func TestHonestDealersAreQualified(t *testing.T) {
	for _, gr := range shareGroups() {
		for n := 1; n <= maxTrustees; n++ {
			for k := 1; k <= n; k++ {
				polys := somePolysOf(gr, n, k)
				checkGame(t, gr, polys, nil)
				checkGame(t, gr, slices.Repeat(polys[n-1:], n), nil)
				p, _ := play(gr, polys, nil)
				qualified, ok := impl.QualifiedIn(gr, p.l, p.answers)
				checkList(t, fmt.Sprintf("QualifiedIn in %v of honest dealers with %v", gr, polys), firstTrustees(n), qualified, ok)
			}
		}
	}
}

// TestGamesOfAllPolys takes all pairs of polynomials with one or two coefficients, with and without an answered fault.
func TestGamesOfAllPolys(t *testing.T) {
	fault := faultsOf([4]int{2, 1, 4, 1})
	for _, f := range listsIn(11, 2) {
		for _, g := range listsIn(11, 2) {
			checkGame(t, exampleGroup, [][]int{f, g}, nil)
			checkGame(t, exampleGroup, [][]int{f, g}, fault)
		}
		checkGame(t, exampleGroup, [][]int{f[:1], f[1:]}, nil)
		checkGame(t, exampleGroup, [][]int{f[:1], f[1:]}, fault)
	}
}

// TestGamesWithAllPairsOfFaults takes all pairs of faults of two dealers.
func TestGamesWithAllPairsOfFaults(t *testing.T) {
	faults := allFaults(2)
	for _, polys := range [][][]int{{{3, 1}, {4, 2}}, {{3}, {4}}} {
		for _, first := range faults {
			checkGame(t, exampleGroup, polys, []impl.Fault{first})
			for _, second := range faults {
				checkGame(t, exampleGroup, polys, []impl.Fault{first, second})
			}
		}
	}
}

func TestGamesOfAllGroups(t *testing.T) {
	for _, gr := range shareGroups() {
		for n := 1; n <= maxTrustees; n++ {
			for k := 1; k <= n; k++ {
				polys := somePolysOf(gr, n, k)
				checkGame(t, gr, polys, someFaults(gr, n, 1+(n+k)%5, 0))
				checkGame(t, gr, polys, someFaults(gr, n, 1+(2*n+k)%9, 0b0101010))
				checkGame(t, gr, polys, someFaults(gr, n, maxFaults, 0b0010001))
			}
		}
	}
}

// someWrong returns n dealings of polynomials with k coefficients, of which dealer has wrong shares for the trustees whose bits in which are 1, and the right answers.
func someWrong(gr impl.Group, n int, k int, dealer int, which int) ([]impl.Dealing, [][]int) {
	var l []impl.Dealing
	for _, f := range somePolysOf(gr, n, k) {
		l = append(l, wantDealing(gr, f, n))
	}
	answers := make([][]int, n)
	d := &l[dealer-1]
	shares, wrong := withWrong(gr, d.Shares, which, 1+which%(gr.Q-1))
	answers[dealer-1] = sharesAt(d.Shares, wrong)
	d.Shares = shares
	return l, answers
}

// TestComplaintsOfAllSubsets makes the shares of all sets of trustees wrong: none, some and all.
func TestComplaintsOfAllSubsets(t *testing.T) {
	for _, gr := range shareGroups() {
		for n := 1; n <= maxTrustees; n++ {
			for which := range 1 << n {
				k, dealer := 1+which%n, 1+which/2%n
				l, _ := someWrong(gr, n, k, dealer, which)
				want := make([][]int, n)
				_, want[dealer-1] = withWrong(gr, repeated(0, n), which, 1)
				got, ok := impl.ComplaintsIn(gr, l)
				checkSame(t, fmt.Sprintf("ComplaintsIn(%v, %v)", gr, l), want, got, ok)
			}
		}
	}
}

// TestComplaintsOfAnyShares takes dealings of any elements and exponents, of which nearly all shares are wrong, and all dealings with the same wrong ones.
func TestComplaintsOfAnyShares(t *testing.T) {
	for _, gr := range shareGroups() {
		for n := 1; n <= maxTrustees; n++ {
			checkComplaints(t, gr, alikeDealings(gr, n, (n+1)/2, n))
			l, _ := someWrong(gr, n, n, n, 1<<n-1)
			checkComplaints(t, gr, slices.Repeat(l[n-1:], n))
		}
	}
	for _, shares := range listsIn(11, 2) {
		checkComplaints(t, exampleGroup, pairOf(shares, []int{6, 8}))
		checkComplaints(t, exampleGroup, pairOf([]int{4, 5}, shares))
	}
}

// TestQualifiedWithAllSubsets makes the shares of all sets of trustees wrong, for all thresholds, and answers rightly: with as many wrong shares as the threshold the dealer is disqualified, with one fewer not.
func TestQualifiedWithAllSubsets(t *testing.T) {
	for _, gr := range []impl.Group{exampleGroup, topGroup} {
		for n := 1; n <= maxTrustees; n++ {
			for k := 1; k <= n; k++ {
				for which := range 1 << n {
					dealer := 1 + which%n
					l, answers := someWrong(gr, n, k, dealer, which)
					want := firstTrustees(n)
					if len(answers[dealer-1]) >= k {
						want = removed(want, dealer-1)
					}
					got, ok := impl.QualifiedIn(gr, l, answers)
					checkList(t, fmt.Sprintf("QualifiedIn(%v, %v, %v)", gr, l, answers), want, got, ok)
					if which%3 == 0 {
						checkOutcome(t, gr, l, answers)
					}
				}
			}
		}
	}
}

// TestQualifiedAtTheThreshold makes all dealers have as many wrong shares as the threshold, or one fewer or more, and takes all sets of dealers that have the greater number.
func TestQualifiedAtTheThreshold(t *testing.T) {
	for _, gr := range shareGroups() {
		for _, n := range []int{1, 2, 3, maxTrustees} {
			for k := 1; k <= n; k++ {
				for _, more := range []int{k, min(k+1, n)} {
					which := 0b1010110 & (1<<n - 1)
					var l []impl.Dealing
					var answers [][]int
					var want []int
					for i := range n {
						wrong := k - 1
						if which>>i&1 == 1 {
							wrong = more
						} else {
							want = append(want, i+1)
						}
						one, answered := someWrong(gr, n, k, i+1, 1<<wrong-1)
						l, answers = append(l, one[i]), append(answers, answered[i])
					}
					got, ok := impl.QualifiedIn(gr, l, answers)
					checkList(t, fmt.Sprintf("QualifiedIn(%v, %v, %v)", gr, l, answers), want, got, ok)
					checkOutcome(t, gr, l, answers)
				}
			}
		}
	}
}

// TestQualifiedWithAllAnswers takes all lists of up to two answers of one dealer, who has each set of wrong shares, and of both dealers.
func TestQualifiedWithAllAnswers(t *testing.T) {
	for _, shares := range [][]int{{4, 5}, {4, 6}, {3, 5}, {7, 6}, {5, 4}} {
		for _, given := range smallLists(11, 2) {
			checkOutcome(t, exampleGroup, pairOf(shares, []int{6, 8}), [][]int{given, nil})
			checkOutcome(t, exampleGroup, pairOf([]int{6, 8}, shares), [][]int{nil, given})
		}
	}
	for first := range 11 {
		for second := range 11 {
			checkOutcome(t, exampleGroup, pairOf([]int{4, 6}, []int{7, 8}), [][]int{{first}, {second}})
		}
		checkOutcome(t, exampleGroup, []impl.Dealing{{Commits: []int{8}, Shares: []int{3, 3}}, {Commits: []int{16}, Shares: []int{3, 4}}}, [][]int{nil, {first}})
		checkOutcome(t, exampleGroup, []impl.Dealing{{Commits: []int{8}, Shares: []int{3}}}, [][]int{{first}})
	}
}

// TestQualifiedWithWrongAnswers takes right answers of three of seven trustees, and changes of them: wrong ones at each place, too few, too many, the answers in another order, and the wrong shares themselves.
func TestQualifiedWithWrongAnswers(t *testing.T) {
	for _, gr := range shareGroups() {
		for dealer := 1; dealer <= maxTrustees; dealer++ {
			l, answers := someWrong(gr, maxTrustees, 5, dealer, 0b1001010)
			right := answers[dealer-1]
			sent := sharesAt(l[dealer-1].Shares, []int{2, 4, 7})
			lists := [][]int{right, nil, sent, reversed(right), right[:2], right[1:], append(slices.Clone(right), right...), l[dealer-1].Shares, append(slices.Clone(right), repeated(0, 4)...), repeated(right[0], 3)}
			for i, share := range right {
				lists = append(lists, removed(right, i), replaced(right, i, sent[i]), replaced(right, i, (share+1)%gr.Q), replaced(right, i, (share+gr.Q-1)%gr.Q), replaced(right, i, 0))
			}
			for i := range len(right) + 1 {
				lists = append(lists, inserted(right, i, 0), inserted(right, i, right[0]), inserted(right, i, right[2]))
			}
			for _, given := range lists {
				checkOutcome(t, gr, l, slices.Replace(slices.Clone(answers), dealer-1, dealer, given))
			}
			// The answers of another dealer are none.
			checkOutcome(t, gr, l, append(slices.Clone(answers[1:]), answers[0]))
		}
	}
}

// TestQualifiedWithNeedlessAnswers takes answers where no share is wrong, right ones among them.
func TestQualifiedWithNeedlessAnswers(t *testing.T) {
	for _, gr := range shareGroups() {
		for n := 1; n <= maxTrustees; n++ {
			l, none := someWrong(gr, n, (n+1)/2, 1, 0)
			for dealer := 1; dealer <= n; dealer++ {
				d := l[dealer-1]
				for _, given := range [][]int{{0}, d.Shares, d.Shares[:1], repeated(1, maxTrustees)} {
					answers := slices.Replace(slices.Clone(none), dealer-1, dealer, given)
					got, ok := impl.QualifiedIn(gr, l, answers)
					checkList(t, fmt.Sprintf("QualifiedIn(%v, %v, %v)", gr, l, answers), removed(firstTrustees(n), dealer-1), got, ok)
					checkOutcome(t, gr, l, answers)
				}
			}
		}
	}
}

// TestNoDealerIsQualified makes all dealers have a wrong share that none of them answers, that all answer wrongly, or too many of them: QualifiedIn succeeds, but there is no key.
func TestNoDealerIsQualified(t *testing.T) {
	for _, gr := range shareGroups() {
		for n := 1; n <= maxTrustees; n++ {
			for k := 1; k <= n; k++ {
				var l, bad []impl.Dealing
				answers, right := make([][]int, n), make([][]int, n)
				for i := range n {
					one, _ := someWrong(gr, n, k, i+1, 1<<(i%n))
					many, answered := someWrong(gr, n, k, i+1, 1<<k-1)
					l, bad = append(l, one[i]), append(bad, many[i])
					answers[i], right[i] = []int{one[i].Shares[i%n]}, answered[i]
				}
				for _, c := range []played{{l, make([][]int, n)}, {l, answers}, {bad, right}} {
					name := fmt.Sprintf("(%v, %v, %v)", gr, c.l, c.answers)
					qualified, ok := impl.QualifiedIn(gr, c.l, c.answers)
					checkList(t, "QualifiedIn"+name, nil, qualified, ok)
					key, ok := impl.CombineKey(gr, c.l, c.answers)
					checkNone(t, "CombineKey"+name, key, ok)
					code, ok := impl.CheckKeyGen(gr, c.l, c.answers, impl.KeyGen{})
					checkNone(t, "CheckKeyGen"+name, code, ok)
				}
			}
		}
	}
}

// TestOutcomesOfAllSubsetsOfDealers disqualifies all sets of dealers: the outcome is the sum of the others.
func TestOutcomesOfAllSubsetsOfDealers(t *testing.T) {
	for _, gr := range []impl.Group{exampleGroup, topGroup} {
		for _, n := range []int{1, 2, 3, maxTrustees} {
			polys := somePolysOf(gr, n, (n+1)/2)
			for which := range 1 << n {
				var faults []impl.Fault
				for i := range n {
					faults = append(faults, impl.Fault{Dealer: i + 1, Trustee: 1 + (i+which)%n, Delta: 1, Answers: which>>i&1 == 0})
				}
				checkGame(t, gr, polys, faults)
				checkGame(t, gr, polys, slices.DeleteFunc(faults, func(f impl.Fault) bool { return f.Answers }))
			}
		}
	}
}

// checkNoAnswers fails unless all functions of answers refuse them, the last one for any outcome.
func checkNoAnswers(t *testing.T, gr impl.Group, l []impl.Dealing, answers [][]int) {
	t.Helper()
	name := fmt.Sprintf("(%v, %v, %v)", gr, l, answers)
	qualified, ok := impl.QualifiedIn(gr, l, answers)
	checkNoList(t, "QualifiedIn"+name, qualified, ok)
	k, ok := impl.CombineKey(gr, l, answers)
	checkNone(t, "CombineKey"+name, k, ok)
	for _, k := range []impl.KeyGen{{}, {Qualified: []int{1}, Key: 1, Commits: []int{1}, Shares: []int{0}}} {
		code, ok := impl.CheckKeyGen(gr, l, answers, k)
		checkNone(t, "CheckKeyGen"+name, code, ok)
	}
}

// TestAnswersOfOtherNumbers takes more or fewer lists of answers than dealings, and lists of up to MaxTrustees answers and longer ones.
func TestAnswersOfOtherNumbers(t *testing.T) {
	for _, gr := range shareGroups() {
		for n := 1; n <= maxTrustees; n++ {
			l, _ := someWrong(gr, n, 1, 1, 0)
			for _, many := range append(counting(maxTrustees+3), maxList, 1000) {
				if many == n {
					checkOutcome(t, gr, l, make([][]int, many))
				} else {
					checkNoAnswers(t, gr, l, make([][]int, many))
				}
			}
			for i := range n {
				for _, many := range append(counting(maxTrustees+3), maxList, maxList+1, 1000) {
					answers := make([][]int, n)
					answers[i] = repeated(1, many)
					if many <= maxTrustees {
						checkOutcome(t, gr, l, answers)
					} else {
						checkNoAnswers(t, gr, l, answers)
					}
				}
			}
		}
	}
}

// TestAnswersThatAreNoExponents takes an integer that is no exponent at each place of the answers, also of a dealer who would be disqualified without it, and where no answer is needed.
func TestAnswersThatAreNoExponents(t *testing.T) {
	for _, gr := range shareGroups() {
		for _, which := range []int{0b010, 0b110, 0b111} {
			l, answers := someWrong(gr, 3, 3, 2, which)
			checkOutcome(t, gr, l, answers)
			for i, share := range answers[1] {
				for _, x := range append(notExponents(gr), share+gr.Q, share-gr.Q) {
					checkNoAnswers(t, gr, l, [][]int{nil, replaced(answers[1], i, x), nil})
					checkNoAnswers(t, gr, l, [][]int{{x}, answers[1], nil})
					checkNoAnswers(t, gr, l, [][]int{nil, answers[1], {0, x}})
					checkNoAnswers(t, gr, l, [][]int{nil, append(slices.Clone(answers[1]), x), nil})
				}
			}
		}
	}
}

// TestOutcomesOfOtherDealings takes dealings that have not the form of a key generation, with as many answers.
func TestOutcomesOfOtherDealings(t *testing.T) {
	for _, gr := range shareGroups() {
		for many := range maxTrustees + 3 {
			for n := range maxTrustees + 3 {
				for _, k := range []int{0, 1, 2, n, n + 1} {
					l := alikeDealings(gr, many, k, n)
					if impl.IsKeyGenInput(gr, l) {
						checkComplaints(t, gr, l)
						checkOutcome(t, gr, l, make([][]int, many))
						continue
					}
					complaints, ok := impl.ComplaintsIn(gr, l)
					checkNoList(t, fmt.Sprintf("ComplaintsIn(%v, %v)", gr, l), complaints, ok)
					checkNoAnswers(t, gr, l, make([][]int, many))
				}
			}
		}
	}
}

// TestOutcomesOfEqualOrOppositeDealings takes polynomials whose sum is 0, and the same polynomial for all dealers.
func TestOutcomesOfEqualOrOppositeDealings(t *testing.T) {
	for _, gr := range shareGroups() {
		for _, f := range someSecretPolys(gr, 2) {
			opposite := make([]int, len(f))
			for k, c := range f {
				opposite[k] = (gr.Q - c) % gr.Q
			}
			p, _ := play(gr, [][]int{f, opposite}, nil)
			k := checkOutcome(t, gr, p.l, p.answers)
			checkSame(t, fmt.Sprintf("CombineKey in %v of %v and its opposite", gr, f), impl.KeyGen{Qualified: []int{1, 2}, Key: 1, Commits: []int{1, 1}, Shares: []int{0, 0}}, k, true)
			checkGame(t, gr, slices.Repeat([][]int{f}, maxTrustees), faultsOf([4]int{3, 3, 1, 1}, [4]int{5, 2, 1, 0}))
		}
	}
}
