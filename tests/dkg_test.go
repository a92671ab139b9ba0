package tests

import (
	"fmt"
	"slices"
	"testing"

	"loop.example/g00878/impl"
)

// Promise 12: the shares of a key generation fit its commitments, and honest dealers are qualified.
// This file covers the form of key generations and the dealers that are played. The expected values come from big integers, and some from a calculation outside this program.

// maxFaults is the greatest number of faults.
const maxFaults = 20

// played is what PlayDealers returns beside its last result.
type played struct {
	l       []impl.Dealing
	answers [][]int
}

// play returns PlayDealers with its first two results as one.
func play(gr impl.Group, polys [][]int, faults []impl.Fault) (played, bool) {
	l, answers, ok := impl.PlayDealers(gr, polys, faults)
	return played{l, answers}, ok
}

// faultsOf returns the faults with the given dealers, trustees, Deltas and, as 1 or 0, Answers.
func faultsOf(l ...[4]int) []impl.Fault {
	var faults []impl.Fault
	for _, f := range l {
		faults = append(faults, impl.Fault{Dealer: f[0], Trustee: f[1], Delta: f[2], Answers: f[3] == 1})
	}
	return faults
}

// wantPlayed returns the dealings and the answers of dealers. Unlike the program, it collects all faults of each share.
func wantPlayed(gr impl.Group, polys [][]int, faults []impl.Fault) played {
	var p played
	for k, f := range polys {
		d, isAnswering := wantDealing(gr, f, len(polys)), true
		right := slices.Clone(d.Shares)
		var answers []int
		for i, share := range right {
			summands := []int{share}
			for _, fault := range faults {
				if fault == (impl.Fault{Dealer: k + 1, Trustee: i + 1, Delta: fault.Delta, Answers: fault.Answers}) {
					summands = append(summands, fault.Delta)
					isAnswering = isAnswering && fault.Answers
				}
			}
			d.Shares[i] = wantSumOf(gr, summands)
			if d.Shares[i] != share {
				answers = append(answers, share)
			}
		}
		if !isAnswering {
			answers = nil
		}
		p.l, p.answers = append(p.l, d), append(p.answers, answers)
	}
	return p
}

// checkPlayed compares dealers with the expected ones, whose dealings have the form of a key generation.
func checkPlayed(t *testing.T, gr impl.Group, polys [][]int, faults []impl.Fault) played {
	t.Helper()
	got, ok := play(gr, polys, faults)
	if want := wantPlayed(gr, polys, faults); !ok || !same(got, want) {
		t.Errorf("PlayDealers(%v, %v, %v) = %v, %v; want %v, true", gr, polys, faults, got, ok, want)
	}
	checkKeyGenInput(t, gr, got.l, true)
	return got
}

// checkNotPlayed fails unless dealers are refused.
func checkNotPlayed(t *testing.T, gr impl.Group, polys [][]int, faults []impl.Fault) {
	t.Helper()
	got, ok := play(gr, polys, faults)
	checkNone(t, fmt.Sprintf("PlayDealers(%v, %v, %v)", gr, polys, faults), got, ok)
}

// checkKeyGenInput fails unless IsKeyGenInput reports what is wanted.
func checkKeyGenInput(t *testing.T, gr impl.Group, l []impl.Dealing, want bool) {
	t.Helper()
	if got := impl.IsKeyGenInput(gr, l); got != want {
		t.Errorf("IsKeyGenInput(%v, %v) = %v", gr, l, got)
	}
}

// somePolysOf returns n polynomials with k coefficients each.
func somePolysOf(gr impl.Group, n int, k int) [][]int {
	polys := append(someSecretPolys(gr, k), someResidues(gr.Q)[30:30+k])
	return polys[:n]
}

func TestKeyGenConstants(t *testing.T) {
	codes := []int{impl.KgDone, impl.KgQualified, impl.KgKey, impl.KgCommits, impl.KgShares}
	if !slices.Equal(codes, counting(5)) {
		t.Error("the codes are", codes)
	}
}

// exampleGame is a key generation with what PlayDealers, ComplaintsIn and CombineKey return for it.
type exampleGame struct {
	gr     impl.Group
	polys  [][]int
	faults []impl.Fault
	want   played
	bad    [][]int
	key    impl.KeyGen
}

// pairOf returns two dealings with the commitments of the polynomials 3, 1 and 4, 2 in the group of the examples.
func pairOf(first []int, second []int) []impl.Dealing {
	return []impl.Dealing{{Commits: []int{8, 2}, Shares: first}, {Commits: []int{16, 4}, Shares: second}}
}

// pairGames returns key generations of two dealers. Where no dealer is qualified, the outcome is zero.
func pairGames() []exampleGame {
	none, pair := [][]int{nil, nil}, [][]int{{3, 1}, {4, 2}}
	both := impl.KeyGen{Qualified: []int{1, 2}, Key: 13, Commits: []int{13, 8}, Shares: []int{10, 2}}
	second := impl.KeyGen{Qualified: []int{2}, Key: 16, Commits: []int{16, 4}, Shares: []int{6, 8}}
	right := played{pairOf([]int{4, 5}, []int{6, 8}), none}
	wrong := pairOf([]int{4, 6}, []int{6, 8})
	return []exampleGame{
		{exampleGroup, pair, nil, right, none, both},
		{exampleGroup, pair, faultsOf([4]int{1, 2, 1, 1}), played{wrong, [][]int{{5}, nil}}, [][]int{{2}, nil}, both},
		{exampleGroup, pair, faultsOf([4]int{1, 2, 1, 0}), played{wrong, none}, [][]int{{2}, nil}, second},
		{exampleGroup, pair, faultsOf([4]int{1, 2, 1, 0}, [4]int{2, 1, 1, 0}), played{pairOf([]int{4, 6}, []int{7, 8}), none}, [][]int{{2}, {1}}, impl.KeyGen{}},
		{exampleGroup, pair, faultsOf([4]int{1, 2, 1, 1}, [4]int{1, 1, 3, 1}), played{pairOf([]int{7, 6}, []int{6, 8}), [][]int{{4, 5}, nil}}, [][]int{{1, 2}, nil}, second},
		{exampleGroup, pair, faultsOf([4]int{1, 2, 1, 1}, [4]int{1, 1, 0, 0}), played{wrong, none}, [][]int{{2}, nil}, second},
		{exampleGroup, pair, faultsOf([4]int{1, 2, 1, 1}, [4]int{2, 1, 0, 0}), played{wrong, [][]int{{5}, nil}}, [][]int{{2}, nil}, both},
		{exampleGroup, pair, faultsOf([4]int{1, 2, 1, 1}, [4]int{1, 2, 10, 1}), right, none, both},
		{exampleGroup, pair, faultsOf([4]int{1, 2, 1, 0}, [4]int{1, 2, 10, 1}), right, none, both},
		{exampleGroup, pair, faultsOf([4]int{1, 2, 0, 0}), right, none, both},
		{exampleGroup, pair, faultsOf([4]int{1, 2, 0, 1}), right, none, both},
		{exampleGroup, pair, faultsOf([4]int{1, 2, 6, 1}, [4]int{1, 2, 6, 1}), played{wrong, [][]int{{5}, nil}}, [][]int{{2}, nil}, both},
	}
}

// exampleGames returns the key generations of all examples.
func exampleGames() []exampleGame {
	top := repeated(999999190, 7)
	topDealing := impl.Dealing{Commits: repeated(499999596, 7), Shares: []int{999999184, 999999064, 999998098, 999993730, 999979660, 999943204, 999861934}}
	return append(pairGames(), []exampleGame{
		{exampleGroup, [][]int{{3}, {4}}, nil,
			played{[]impl.Dealing{{Commits: []int{8}, Shares: []int{3, 3}}, {Commits: []int{16}, Shares: []int{4, 4}}}, [][]int{nil, nil}},
			[][]int{nil, nil}, impl.KeyGen{Qualified: []int{1, 2}, Key: 13, Commits: []int{13}, Shares: []int{7, 7}}},
		{exampleGroup, [][]int{{5}}, nil,
			played{[]impl.Dealing{{Commits: []int{9}, Shares: []int{5}}}, [][]int{nil}},
			[][]int{nil}, impl.KeyGen{Qualified: []int{1}, Key: 9, Commits: []int{9}, Shares: []int{5}}},
		{exampleGroup, [][]int{{0}}, faultsOf([4]int{1, 1, 1, 1}),
			played{[]impl.Dealing{{Commits: []int{1}, Shares: []int{1}}}, [][]int{{0}}},
			[][]int{{1}}, impl.KeyGen{}},
		{exampleGroup, [][]int{{1, 2, 3}, {4, 5, 6}, {7, 8, 9}}, faultsOf([4]int{2, 1, 4, 1}, [4]int{3, 3, 10, 0}, [4]int{2, 3, 9, 1}),
			played{[]impl.Dealing{{Commits: []int{2, 4, 8}, Shares: []int{6, 6, 1}}, {Commits: []int{16, 9, 18}, Shares: []int{8, 5, 5}}, {Commits: []int{13, 3, 6}, Shares: []int{2, 4, 1}}}, [][]int{nil, {4, 7}, nil}},
			[][]int{nil, {1, 3}, {3}}, impl.KeyGen{Qualified: []int{1, 2}, Key: 9, Commits: []int{9, 13, 6}, Shares: []int{10, 0, 8}}},
		{exampleGroup, [][]int{{10, 0}, {0, 10}, {1, 1}}, faultsOf([4]int{3, 2, 5, 1}, [4]int{1, 3, 2, 1}),
			played{[]impl.Dealing{{Commits: []int{12, 1}, Shares: []int{10, 10, 1}}, {Commits: []int{1, 12}, Shares: []int{10, 9, 8}}, {Commits: []int{2, 2}, Shares: []int{2, 8, 4}}}, [][]int{{10}, nil, {3}}},
			[][]int{{3}, nil, {2}}, impl.KeyGen{Qualified: []int{1, 2, 3}, Key: 1, Commits: []int{1, 1}, Shares: []int{0, 0, 0}}},
		{impl.Group{P: 47, Q: 23, G: 2}, [][]int{{22, 5, 9}, {0, 22, 1}, {7, 7, 7}, {11, 0, 0}}, faultsOf([4]int{1, 4, 22, 1}, [4]int{1, 1, 3, 1}, [4]int{4, 2, 1, 1}, [4]int{4, 3, 1, 0}),
			played{[]impl.Dealing{{Commits: []int{24, 32, 42}, Shares: []int{16, 22, 3, 1}}, {Commits: []int{1, 24, 2}, Shares: []int{0, 2, 6, 12}}, {Commits: []int{34, 34, 34}, Shares: []int{21, 3, 22, 9}}, {Commits: []int{27, 1, 1}, Shares: []int{11, 12, 12, 11}}}, [][]int{{13, 2}, nil, nil, nil}},
			[][]int{{1, 4}, nil, nil, {2, 3}}, impl.KeyGen{Qualified: []int{1, 2, 3}, Key: 17, Commits: []int{17, 27, 36}, Shares: []int{11, 4, 8, 0}}},
		{topGroup, [][]int{{123456789, 999999190}, {999999190, 500000000}, {0, 1}}, faultsOf([4]int{1, 3, 999999190, 1}, [4]int{2, 1, 1, 0}, [4]int{3, 2, 500000000, 1}),
			played{[]impl.Dealing{{Commits: []int{962152726, 499999596}, Shares: []int{123456788, 123456787, 123456785}}, {Commits: []int{499999596, 1276408233}, Shares: []int{500000000, 808, 500000808}}, {Commits: []int{1, 4}, Shares: []int{1, 500000002, 3}}}, [][]int{{123456786}, nil, {2}}},
			[][]int{{3}, {1}, {2}}, impl.KeyGen{Qualified: []int{1, 3}, Key: 962152726, Commits: []int{962152726, 1}, Shares: []int{123456789, 123456789, 123456789}}},
		{topGroup, slices.Repeat([][]int{top}, 7), nil, played{slices.Repeat([]impl.Dealing{topDealing}, 7), make([][]int, 7)},
			make([][]int, 7), impl.KeyGen{Qualified: firstTrustees(7), Key: 709105872, Commits: repeated(709105872, 7), Shares: []int{999999142, 999998302, 999991540, 999960964, 999862474, 999607282, 999038392}}},
	}...)
}

func TestPlayDealersExamples(t *testing.T) {
	for _, c := range exampleGames() {
		got, ok := play(c.gr, c.polys, c.faults)
		if !ok || !same(got, c.want) {
			t.Errorf("PlayDealers(%v, %v, %v) = %v, %v; want %v, true", c.gr, c.polys, c.faults, got, ok, c.want)
		}
		if reference := wantPlayed(c.gr, c.polys, c.faults); !same(reference, c.want) {
			t.Errorf("the reference of %v, %v, %v is %v; want %v", c.gr, c.polys, c.faults, reference, c.want)
		}
	}
}

// TestPlayDealersWithoutFaults deals as DealShares does, and answers nothing.
func TestPlayDealersWithoutFaults(t *testing.T) {
	for _, gr := range shareGroups() {
		for n := 1; n <= maxTrustees; n++ {
			for k := 1; k <= n; k++ {
				polys := somePolysOf(gr, n, k)
				for i, d := range checkPlayed(t, gr, polys, nil).l {
					want, ok := impl.DealShares(gr, polys[i], n)
					checkDealing(t, fmt.Sprintf("PlayDealers(%v, %v)", gr, polys), want, d, ok)
				}
				checkPlayed(t, gr, polys, []impl.Fault{})
				checkPlayed(t, gr, slices.Repeat(polys[n-1:], n), nil)
			}
		}
	}
}

// TestPlayDealersOfAllPolys takes all pairs of polynomials with one or two coefficients, with and without a fault.
func TestPlayDealersOfAllPolys(t *testing.T) {
	fault := faultsOf([4]int{2, 1, 4, 1})
	for _, f := range listsIn(11, 2) {
		for _, g := range listsIn(11, 2) {
			checkPlayed(t, exampleGroup, [][]int{f, g}, nil)
			checkPlayed(t, exampleGroup, [][]int{f, g}, fault)
		}
		checkPlayed(t, exampleGroup, [][]int{f[:1], f[1:]}, nil)
		checkPlayed(t, exampleGroup, [][]int{f[:1], f[1:]}, fault)
	}
}

// allFaults returns all faults of one share among n trustees in the group of the examples.
func allFaults(n int) []impl.Fault {
	var l []impl.Fault
	for dealer := 1; dealer <= n; dealer++ {
		for trustee := 1; trustee <= n; trustee++ {
			for delta := range 11 {
				l = append(l, faultsOf([4]int{dealer, trustee, delta, 0}, [4]int{dealer, trustee, delta, 1})...)
			}
		}
	}
	return l
}

// TestPlayDealersWithAllPairsOfFaults takes each fault alone, and all pairs, among which are two faults of one share, with sums of 0 and of other integers.
func TestPlayDealersWithAllPairsOfFaults(t *testing.T) {
	for _, polys := range [][][]int{{{3, 1}, {4, 2}}, {{3}, {4}}} {
		for _, first := range allFaults(2) {
			checkPlayed(t, exampleGroup, polys, []impl.Fault{first})
			for _, second := range allFaults(2) {
				checkPlayed(t, exampleGroup, polys, []impl.Fault{first, second})
			}
		}
	}
	for _, fault := range allFaults(1) {
		checkPlayed(t, exampleGroup, [][]int{{9}}, []impl.Fault{fault})
	}
}

// someFaults returns faults of n dealers, of any shares and any Deltas. The dealers whose bits in which are 1 do not answer.
func someFaults(gr impl.Group, n int, many int, which int) []impl.Fault {
	var l []impl.Fault
	r := someResidues(gr.Q)
	for i := range many {
		dealer := someResidues(n)[i+7]
		// Of the faults of a dealer who does not answer, the first one alone is not answered.
		answers := which>>dealer&1 == 0 || slices.ContainsFunc(l, func(f impl.Fault) bool { return f.Dealer == dealer+1 })
		l = append(l, impl.Fault{Dealer: dealer + 1, Trustee: someResidues(n)[i+30] + 1, Delta: r[i+4], Answers: answers})
	}
	return l
}

// TestPlayDealersOfAllGroups takes up to 20 faults of any dealers.
func TestPlayDealersOfAllGroups(t *testing.T) {
	for _, gr := range shareGroups() {
		for n := 1; n <= maxTrustees; n++ {
			for _, k := range []int{1, (n + 1) / 2, n} {
				for _, many := range []int{1, 2, 3, 8, maxFaults - 1, maxFaults} {
					checkPlayed(t, gr, somePolysOf(gr, n, k), someFaults(gr, n, many, 0b0101010))
					checkPlayed(t, gr, somePolysOf(gr, n, k), someFaults(gr, n, many, 0))
				}
			}
		}
	}
}

// TestPlayDealersWithFaultsOfOneShare takes up to 20 faults of one share, the first so many of which are answered, and a last one that cancels the others.
func TestPlayDealersWithFaultsOfOneShare(t *testing.T) {
	for _, gr := range shareGroups() {
		polys := somePolysOf(gr, 3, 2)
		for many := 2; many <= maxFaults; many++ {
			var faults []impl.Fault
			for i := range many {
				faults = append(faults, impl.Fault{Dealer: 2, Trustee: 3, Delta: gr.Q - 1 - i%2, Answers: i < many/2})
			}
			checkPlayed(t, gr, polys, faults)
			for i := range faults {
				faults[i].Answers = true
			}
			checkPlayed(t, gr, polys, faults)
			var deltas []int
			for _, f := range faults[1:] {
				deltas = append(deltas, gr.Q-f.Delta)
			}
			faults[0].Delta = wantSumOf(gr, deltas)
			p := checkPlayed(t, gr, polys, faults)
			checkDealing(t, "a dealing with faults that cancel each other", wantDealing(gr, polys[1], 3), p.l[1], len(p.answers[1]) == 0)
		}
	}
}

// TestPlayDealersKeepsTheOrderOfTrustees takes faults of decreasing trustees, which are answered in increasing order.
func TestPlayDealersKeepsTheOrderOfTrustees(t *testing.T) {
	for _, gr := range shareGroups() {
		for n := 1; n <= maxTrustees; n++ {
			polys := somePolysOf(gr, n, n)
			for _, order := range [][]int{firstTrustees(n), reversed(firstTrustees(n))} {
				var faults []impl.Fault
				for _, i := range order {
					faults = append(faults, impl.Fault{Dealer: n, Trustee: i, Delta: 1, Answers: true})
				}
				p := checkPlayed(t, gr, polys, faults)
				checkList(t, fmt.Sprintf("the answers of %v", faults), wantValues(gr.Q, polys[n-1], firstTrustees(n)), p.answers[n-1], true)
			}
		}
	}
}

// reversed returns a list in the opposite order.
func reversed(l []int) []int {
	r := slices.Clone(l)
	slices.Reverse(r)
	return r
}

// TestPlayDealersWithTooManyFaults takes 20 faults and more, also ones that change nothing.
func TestPlayDealersWithTooManyFaults(t *testing.T) {
	for _, gr := range shareGroups() {
		for n := 1; n <= maxTrustees; n++ {
			for _, f := range faultsOf([4]int{1, 1, 0, 1}, [4]int{n, 1, 0, 0}, [4]int{1, n, 1, 1}, [4]int{n, n, gr.Q - 1, 0}) {
				polys := somePolysOf(gr, n, 1)
				checkPlayed(t, gr, polys, slices.Repeat([]impl.Fault{f}, maxFaults))
				for _, many := range []int{maxFaults + 1, maxFaults + 2, 2 * maxFaults, maxList, 1000} {
					checkNotPlayed(t, gr, polys, slices.Repeat([]impl.Fault{f}, many))
				}
			}
		}
	}
}

// TestPlayDealersWithOtherFaults takes one fault that is not possible at each place of others: a Delta that is no exponent, and a dealer and a trustee that do not take part.
func TestPlayDealersWithOtherFaults(t *testing.T) {
	for _, gr := range shareGroups() {
		for n := 1; n <= maxTrustees; n++ {
			polys := somePolysOf(gr, n, 1)
			var bad []impl.Fault
			for _, x := range append(notExponents(gr), -gr.Q+1, 2*gr.Q) {
				bad = append(bad, impl.Fault{Dealer: 1, Trustee: n, Delta: x, Answers: true}, impl.Fault{Dealer: n, Trustee: 1, Delta: x})
			}
			for _, i := range append(otherTrustees, 0, n+1, n+2) {
				bad = append(bad, impl.Fault{Dealer: i, Trustee: n, Delta: 1, Answers: true}, impl.Fault{Dealer: 1, Trustee: i, Delta: 1, Answers: true}, impl.Fault{Dealer: i, Trustee: i, Delta: 0})
			}
			right := someFaults(gr, n, 3, 0)
			checkPlayed(t, gr, polys, right)
			for _, f := range bad {
				checkNotPlayed(t, gr, polys, []impl.Fault{f})
				for i := range len(right) + 1 {
					checkNotPlayed(t, gr, polys, slices.Insert(slices.Clone(right), i, f))
				}
			}
		}
	}
}

// TestPlayDealersOfOtherNumbers takes all numbers of polynomials and of coefficients up to the limits and beyond.
func TestPlayDealersOfOtherNumbers(t *testing.T) {
	for _, gr := range shareGroups() {
		for _, n := range append(counting(maxTrustees+3), maxList, maxList+1, 1000) {
			for _, k := range append(counting(maxTrustees+3), maxList, maxList+1, 1000) {
				for _, f := range [][]int{repeated(0, k), repeated(1, k)} {
					polys := slices.Repeat([][]int{f}, n)
					if 1 <= k && k <= n && n <= maxTrustees {
						checkPlayed(t, gr, polys, nil)
					} else {
						checkNotPlayed(t, gr, polys, nil)
					}
				}
			}
		}
		checkNotPlayed(t, gr, nil, nil)
		checkNotPlayed(t, gr, [][]int{}, []impl.Fault{})
		checkNotPlayed(t, gr, nil, faultsOf([4]int{1, 1, 0, 1}))
		checkNotPlayed(t, gr, make([][]int, maxTrustees), nil)
	}
}

// TestPlayDealersOfOtherLengths takes one polynomial of another length at each index, which DealShares takes alone, and an empty one.
func TestPlayDealersOfOtherLengths(t *testing.T) {
	for _, gr := range shareGroups() {
		for n := 2; n <= maxTrustees; n++ {
			for k := 1; k <= n; k++ {
				polys := somePolysOf(gr, n, k)
				for i := range n {
					for other := range n + 1 {
						if other != k {
							checkNotPlayed(t, gr, slices.Replace(slices.Clone(polys), i, i+1, repeated(0, other)), nil)
						}
					}
				}
			}
		}
	}
}

// TestPlayDealersOfBadPolys takes an integer that is no exponent at each place of each polynomial.
func TestPlayDealersOfBadPolys(t *testing.T) {
	for _, gr := range shareGroups() {
		for _, n := range []int{1, 2, 3, maxTrustees} {
			polys := somePolysOf(gr, n, (n+1)/2)
			for i, f := range polys {
				for k, c := range f {
					for _, x := range append(notExponents(gr), c+gr.Q, c-gr.Q) {
						checkNotPlayed(t, gr, slices.Replace(slices.Clone(polys), i, i+1, replaced(f, k, x)), nil)
					}
				}
			}
		}
	}
}

// alikeDealings returns many dealings with k commitments and n shares each, of any elements and exponents.
func alikeDealings(gr impl.Group, many int, k int, n int) []impl.Dealing {
	var l []impl.Dealing
	for i := range many {
		l = append(l, impl.Dealing{Commits: someElements(gr)[i : i+k], Shares: someResidues(gr.Q)[i : i+n]})
	}
	return l
}

// TestKeyGenInputsOfAllLengths takes all numbers of dealings, commitments and shares up to the limits and beyond.
func TestKeyGenInputsOfAllLengths(t *testing.T) {
	for _, gr := range shareGroups() {
		for many := range maxTrustees + 3 {
			for k := range maxTrustees + 3 {
				for n := range maxTrustees + 3 {
					checkKeyGenInput(t, gr, alikeDealings(gr, many, k, n), 1 <= k && k <= n && n == many && many <= maxTrustees)
				}
			}
		}
		for _, many := range []int{maxList, maxList + 1, 1000} {
			checkKeyGenInput(t, gr, slices.Repeat([]impl.Dealing{{Commits: []int{gr.G}, Shares: repeated(0, many)}}, many), false)
			checkKeyGenInput(t, gr, slices.Repeat([]impl.Dealing{{Commits: []int{gr.G}, Shares: repeated(0, maxTrustees)}}, many), false)
			checkKeyGenInput(t, gr, make([]impl.Dealing, many), false)
		}
	}
}

// TestKeyGenInputsOfOtherLengths takes one dealing with another threshold or another number of shares at each index. It is valid by itself.
func TestKeyGenInputsOfOtherLengths(t *testing.T) {
	for _, gr := range shareGroups() {
		for many := 1; many <= maxTrustees; many++ {
			threshold := (many + 1) / 2
			l := alikeDealings(gr, many, threshold, many)
			checkKeyGenInput(t, gr, l, true)
			for i := range l {
				for k := 1; k <= maxTrustees; k++ {
					for n := k; n <= maxTrustees; n++ {
						other := slices.Clone(l)
						other[i] = impl.Dealing{Commits: repeated(gr.G, k), Shares: repeated(1, n)}
						// A single dealing has the threshold of the rest, which there is not.
						checkKeyGenInput(t, gr, other, n == many && (k == threshold || many == 1))
					}
				}
			}
		}
	}
}

// TestKeyGenInputsOfAnyIntegers takes all integers of a range as a commitment and as a share.
func TestKeyGenInputsOfAnyIntegers(t *testing.T) {
	for _, gr := range []impl.Group{exampleGroup, {P: 47, Q: 23, G: 2}, midGroups[0]} {
		elements := elementsIn(gr)
		for x := -gr.P - 2; x < 2*gr.P+3; x++ {
			isElement, isExponent := slices.Contains(elements, x), 0 <= x && x < gr.Q
			right := impl.Dealing{Commits: []int{gr.G}, Shares: []int{0, 1}}
			for _, c := range []struct {
				d    impl.Dealing
				want bool
			}{{impl.Dealing{Commits: []int{x}, Shares: []int{0, 1}}, isElement}, {impl.Dealing{Commits: []int{gr.G}, Shares: []int{x, 1}}, isExponent}, {impl.Dealing{Commits: []int{gr.G}, Shares: []int{1, x}}, isExponent}} {
				checkKeyGenInput(t, gr, []impl.Dealing{c.d, right}, c.want)
				checkKeyGenInput(t, gr, []impl.Dealing{right, c.d}, c.want)
			}
		}
	}
}

// TestKeyGenInputsOfBadDealings takes an integer that is no element or no exponent at each place of each dealing.
func TestKeyGenInputsOfBadDealings(t *testing.T) {
	for _, gr := range shareGroups() {
		for _, many := range []int{1, 2, maxTrustees} {
			l := alikeDealings(gr, many, (many+1)/2, many)
			for i, d := range l {
				for k, c := range d.Commits {
					for _, x := range append(notElements(gr), c+gr.P, c-gr.P) {
						checkKeyGenInput(t, gr, slices.Replace(slices.Clone(l), i, i+1, impl.Dealing{Commits: replaced(d.Commits, k, x), Shares: d.Shares}), false)
					}
				}
				for k, share := range d.Shares {
					for _, x := range append(notExponents(gr), share+gr.Q, share-gr.Q) {
						checkKeyGenInput(t, gr, slices.Replace(slices.Clone(l), i, i+1, impl.Dealing{Commits: d.Commits, Shares: replaced(d.Shares, k, x)}), false)
					}
				}
			}
		}
	}
}
