package tests

import (
	"fmt"
	"math"
	"slices"
	"strings"
	"testing"

	"loop.example/g00878/impl"
)

// Promise 33 for chapter 3.

// anyLabels are permitted labels and labels that are too long.
func anyLabels() []string {
	return append(slices.Clone(someLabels), longLabels...)
}

// anyDigestLists are permitted lists, lists with one fault, and lists of extreme integers.
func anyDigestLists() [][]int {
	return append(append(digestLists(), badDigestLists()...), extremeLists()...)
}

// fewGroups are some valid groups, groups with one fault, and groups of extreme integers only.
func fewGroups() []impl.Group {
	l := append(slices.Clone(hashGroups), badGroups...)
	for _, x := range extremes {
		l = append(l, impl.Group{P: x, Q: x, G: x}, impl.Group{P: x, Q: 2, G: -1}, impl.Group{P: 23, Q: x, G: 2}, impl.Group{P: 23, Q: 11, G: x})
	}
	return l
}

func TestHashFunctionsOfListsAreTotal(t *testing.T) {
	for _, l := range anyDigestLists() {
		given := withSpare(l)
		checkTotal(t, "HashInts", func() (int, bool) { return impl.HashInts(given) })
		checkUntouched(t, "HashInts", given, l)
		for _, label := range anyLabels() {
			checkTotal(t, "HashLabelled", func() (int, bool) { return impl.HashLabelled(label, given) })
			checkUntouched(t, "HashLabelled", given, l)
		}
	}
}

func TestDigestTextIsTotal(t *testing.T) {
	for _, d := range append(slices.Clone(extremes), append(notDigests, someDigests...)...) {
		mustNotPanic(t, fmt.Sprintf("DigestText(%d)", d), func() {
			s, ok := impl.DigestText(d)
			if ok != (0 <= d && d <= maxDigest) || !ok && s != "" || ok && len(s) != 16 {
				t.Errorf("DigestText(%d) = %q, %v", d, s, ok)
			}
		})
	}
}

func TestParseDigestIsTotal(t *testing.T) {
	texts := append(anyLabels(), "3fffffffffffffff", "4000000000000000", "ffffffffffffffff", "-000000000000001", strings.Repeat("0", 1<<20))
	for _, text := range texts {
		checkTotal(t, "ParseDigest", func() (int, bool) { return impl.ParseDigest(text) })
	}
}

// checkChallengeCalls calls the functions of challenges with a copy of a list and fails if one of them panics, has a result with false, or touches the list.
func checkChallengeCalls(t *testing.T, gr impl.Group, label string, l []int) {
	t.Helper()
	given := withSpare(l)
	checkTotal(t, fmt.Sprintf("Challenge(%v) of %d bytes", gr, len(label)), func() (int, bool) { return impl.Challenge(gr, label, given) })
	checkUntouched(t, "Challenge", given, l)
	for _, n := range []int{math.MinInt, -1, 0, 1, 2, maxDerived + 1, math.MaxInt} {
		mustNotPanic(t, fmt.Sprintf("Challenges(%v, %d) of %d bytes", gr, n, len(label)), func() {
			if got, ok := impl.Challenges(gr, label, given, n); ok && len(got) != n || !ok && len(got) != 0 {
				t.Errorf("Challenges(%v, %q, %d) = %v, %v", gr, label, n, got, ok)
			}
		})
		checkUntouched(t, "Challenges", given, l)
	}
}

func TestChallengeFunctionsAreTotal(t *testing.T) {
	for _, gr := range fewGroups() {
		for _, l := range anyDigestLists() {
			checkChallengeCalls(t, gr, "c", l)
		}
	}
	for _, gr := range append(slices.Clone(hashGroups), badGroups...) {
		for _, label := range anyLabels() {
			for _, l := range [][]int{nil, {1, 2}, repeated(0, longestList("")), repeated(-1, 3)} {
				checkChallengeCalls(t, gr, label, l)
			}
		}
	}
}

func TestDeriveFunctionsAreTotal(t *testing.T) {
	for _, gr := range fewGroups() {
		for _, label := range anyLabels() {
			for _, k := range extremes {
				checkTotal(t, fmt.Sprintf("DeriveElement(%v, %d) of %d bytes", gr, k, len(label)), func() (int, bool) { return impl.DeriveElement(gr, label, k) })
			}
			for _, n := range extremes {
				mustNotPanic(t, fmt.Sprintf("DeriveElements(%v, %d) of %d bytes", gr, n, len(label)), func() {
					if got, ok := impl.DeriveElements(gr, label, n); ok && len(got) != n || !ok && len(got) != 0 {
						t.Errorf("DeriveElements(%v, %q, %d) = %v, %v", gr, label, n, got, ok)
					}
				})
			}
		}
	}
}

func TestChallengesShareNoMemory(t *testing.T) {
	for _, l := range [][]int{nil, {1}, {1, 2, 3}, repeated(2, 100)} {
		for _, n := range []int{0, 1, 5, maxDerived} {
			given := withSpare(l)
			first, _ := impl.Challenges(exampleGroup, "c", given, n)
			want := slices.Clone(first)
			second, _ := impl.Challenges(exampleGroup, "c", given, n)
			overwrite(first)
			checkUntouched(t, "a change of the result of Challenges", given, l)
			overwrite(given)
			if !slices.Equal(second, want) {
				t.Errorf("results of Challenges(%v, %d) share memory", l, n)
			}
		}
	}
}

func TestDeriveElementsKeepsNoMemory(t *testing.T) {
	for _, n := range []int{0, 1, 5, maxDerived} {
		first, _ := impl.DeriveElements(exampleGroup, "h", n)
		want := slices.Clone(first)
		second, _ := impl.DeriveElements(exampleGroup, "h", n)
		overwrite(first)
		third, _ := impl.DeriveElements(exampleGroup, "h", n)
		if !slices.Equal(second, want) || !slices.Equal(third, want) {
			t.Errorf("results of DeriveElements(%d) share memory", n)
		}
	}
}

// TestHashFunctionsRepeat checks that a call does not depend on earlier calls.
func TestHashFunctionsRepeat(t *testing.T) {
	calls := func() string {
		digest, _ := impl.HashInts([]int{1, 2, 3})
		labelled, _ := impl.HashLabelled("h", []int{1, 2})
		text, _ := impl.DigestText(255)
		parsed, _ := impl.ParseDigest("00000000000000ff")
		challenge, _ := impl.Challenge(exampleGroup, "c", []int{1})
		challenges, _ := impl.Challenges(exampleGroup, "c", []int{1}, 5)
		element, _ := impl.DeriveElement(exampleGroup, "h", 7)
		elements, _ := impl.DeriveElements(exampleGroup, "h", 5)
		return fmt.Sprint(digest, labelled, text, parsed, challenge, challenges, element, elements)
	}
	want := calls()
	impl.HashInts([]int{-1})
	impl.HashLabelled("other", []int{5, maxDigest})
	impl.ParseDigest("4000000000000000")
	impl.Challenges(topGroup, "d", []int{3}, 100)
	impl.DeriveElements(topGroup, "d", 100)
	if got := calls(); got != want {
		t.Errorf("the same calls returned %s and then %s", want, got)
	}
}
