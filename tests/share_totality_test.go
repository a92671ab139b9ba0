package tests

import (
	"fmt"
	"slices"
	"testing"

	"loop.example/g00878/impl"
)

// Promise 33 for chapter 11.

// listsOfDealing returns the addresses of the lists of a dealing.
func listsOfDealing(d *impl.Dealing) []*[]int {
	return []*[]int{&d.Commits, &d.Shares}
}

// shareLists returns the addresses of all lists of integers among arguments.
func shareLists(a *shareArgs) []*[]int {
	lists := slices.Concat([]*[]int{&a.coefs, &a.commits, &a.indices, &a.shares, &a.values, &a.known}, listsOfDealing(&a.d))
	for i := range a.l {
		lists = append(lists, listsOfDealing(&a.l[i])...)
	}
	return lists
}

// sharesWithSpare returns a copy of arguments with marked spare capacity behind all lists, and with one more dealing behind the list of these.
func sharesWithSpare(a shareArgs) shareArgs {
	whole := append(slices.Clone(a.l), impl.Dealing{Commits: []int{spareMark}, Shares: []int{spareMark}})
	a.l = whole[:len(a.l)]
	for _, list := range shareLists(&a) {
		*list = withSpare(*list)
	}
	return a
}

// shareMemory returns all lists of integers among arguments, with the capacity behind them and behind the list of dealings.
func shareMemory(a shareArgs) [][]int {
	a.l = a.l[:cap(a.l)]
	var lists [][]int
	for _, list := range shareLists(&a) {
		l := *list
		lists = append(lists, l[:cap(l)])
	}
	return lists
}

// checkSharesTotal calls all functions with copies of the lists and fails if one of them panics, has a result with false, or touches a list.
func checkSharesTotal(t *testing.T, a shareArgs) {
	t.Helper()
	given := sharesWithSpare(a)
	before := slices.Concat(shareMemory(given)...)
	for _, f := range shareCalls() {
		if got := callSafely(t, f, given); !got.ok && !got.zero {
			t.Errorf("%s of %+v = %s, false", f.name, a, got.text)
		}
	}
	if after := slices.Concat(shareMemory(given)...); !slices.Equal(after, before) {
		t.Errorf("the functions changed %v to %v", before, after)
	}
}

func TestSharesOfNothingAreTotal(t *testing.T) {
	for _, gr := range append(anyGroups(), noShareGroups...) {
		checkSharesTotal(t, shareArgs{gr: gr})
		checkSharesTotal(t, shareArgs{gr: gr, l: make([]impl.Dealing, 2)})
	}
}

// TestSharesOfExtremesAreTotal puts two extreme integers in all places.
func TestSharesOfExtremesAreTotal(t *testing.T) {
	for _, gr := range append(fewGroups(), noShareGroups...) {
		for _, x := range extremes {
			for _, y := range extremes {
				d := impl.Dealing{Commits: []int{x}, Shares: []int{y}}
				other := impl.Dealing{Commits: []int{y, x}, Shares: []int{x, y}}
				checkSharesTotal(t, shareArgs{gr: gr, coefs: []int{x, y}, n: y, d: d, commits: []int{x, y}, i: y, share: x, indices: []int{x, y}, shares: []int{y, x}, t: x, values: []int{y, x}, known: []int{y}, l: []impl.Dealing{other, other}})
			}
		}
	}
}

// sharePlaces returns the places of all integers among arguments that stand for themselves, and of the first and the last one of each list.
func sharePlaces(a *shareArgs) []*int {
	places := []*int{&a.gr.P, &a.gr.Q, &a.gr.G, &a.n, &a.i, &a.share, &a.t}
	for _, list := range shareLists(a) {
		l := *list
		places = append(places, &l[0], &l[len(l)-1])
	}
	return places
}

// TestSharesOfOneExtremeAreTotal puts one extreme integer in the place of a valid argument, so that it is not refused for another one.
func TestSharesOfOneExtremeAreTotal(t *testing.T) {
	for _, gr := range []impl.Group{exampleGroup, {P: 47, Q: 23, G: 2}, midGroups[3], topGroup} {
		for _, start := range shareStarts(gr) {
			a := sharesWithSpare(start)
			for _, place := range sharePlaces(&a) {
				kept := *place
				for _, x := range extremes {
					*place = x
					checkSharesTotal(t, a)
				}
				*place = kept
			}
		}
	}
}

// TestSharesOfListsAreTotal takes extreme lists in the place of each list, and in all places.
func TestSharesOfListsAreTotal(t *testing.T) {
	lists := append(extremeLists(), repeated(2, maxList), repeated(2, maxList+1), repeated(1, maxTrustees), repeated(1, maxTrustees+1), firstTrustees(maxTrustees), firstTrustees(maxTrustees+1), repeated(2, 3))
	for _, gr := range []impl.Group{exampleGroup, topGroup, {P: 7, Q: 3, G: 2}, {P: 29, Q: 7, G: 7}, {P: 22, Q: 11, G: 2}, {}} {
		start := shareStarts(exampleGroup)[0]
		start.gr = gr
		places := shareLists(&start)
		for _, l := range lists {
			for _, place := range places {
				kept := *place
				*place = l
				checkSharesTotal(t, start)
				*place = kept
			}
		}
		for _, l := range lists {
			for _, place := range places {
				*place = l
			}
			checkSharesTotal(t, start)
		}
	}
}

// TestSharesOfLongListsAreTotal takes lists that are far too long, also of dealings.
func TestSharesOfLongListsAreTotal(t *testing.T) {
	long := repeated(1, 10000)
	for _, a := range shareStarts(exampleGroup) {
		a.l = slices.Repeat([]impl.Dealing{a.d}, 10000)
		checkSharesTotal(t, a)
		a.l = make([]impl.Dealing, 10000)
		checkSharesTotal(t, a)
		for _, d := range []impl.Dealing{{Commits: long, Shares: long}, {Commits: a.d.Commits, Shares: long}, {Commits: long, Shares: a.d.Shares}} {
			a.d, a.l = d, slices.Repeat([]impl.Dealing{d}, maxTrustees)
			checkSharesTotal(t, a)
		}
		a.coefs, a.commits, a.indices, a.shares, a.values, a.known = long, long, long, long, long, long
		checkSharesTotal(t, a)
	}
}

// TestSharesKeepValidLists takes arguments for which all calls succeed, too.
func TestSharesKeepValidLists(t *testing.T) {
	for _, a := range allShareStarts() {
		checkSharesTotal(t, a)
	}
}

// TestSharesOfSharedMemory takes lists that lie behind each other in one array, one list for all, and one dealing several times.
func TestSharesOfSharedMemory(t *testing.T) {
	array := []int{8, 9, 8, 2, 7, 1, 2, 3, 4}
	before := slices.Clone(array)
	d := impl.Dealing{Commits: array[:2], Shares: array[2:5]}
	bad, ok := impl.BadShares(exampleGroup, d)
	checkList(t, "BadShares of parts of an array", nil, bad, ok)
	checkSecret(t, exampleGroup, array[:2], array[5:8], array[2:5], 3)
	checkDealingSum(t, exampleGroup, []impl.Dealing{d, d, d})
	got, ok := impl.DealShares(exampleGroup, array[5:7], 3)
	checkDealing(t, "DealShares of a part of an array", wantDealing(exampleGroup, []int{1, 2}, 3), got, ok)
	one := impl.Dealing{Commits: array[6:9], Shares: array[6:9]}
	checkDealingSum(t, exampleGroup, []impl.Dealing{one, one})
	checkNoSecret(t, exampleGroup, array[6:9], array[6:9], array[6:9])
	if !slices.Equal(array, before) {
		t.Errorf("the functions changed the array to %v", array)
	}
}

// checkOwnDealing fails if the lists of a result share memory with each other, with another result or with the arguments.
func checkOwnDealing(t *testing.T, name string, start shareArgs, deal func(a shareArgs) (impl.Dealing, bool)) {
	t.Helper()
	a := sharesWithSpare(start)
	before := slices.Concat(shareMemory(a)...)
	first, _ := deal(a)
	second, _ := deal(a)
	want := fmt.Sprint(second)
	for _, list := range listsOfDealing(&first) {
		kept := slices.Clone(*list)
		overwrite(*list)
		*list = kept
		if got := fmt.Sprint(first); got != want {
			t.Errorf("the lists of the result of %s share memory: %s, %s", name, want, got)
		}
	}
	third, ok := deal(a)
	if after := slices.Concat(shareMemory(a)...); !slices.Equal(after, before) {
		t.Errorf("a change of the result of %s changed %v to %v", name, before, after)
	}
	for _, list := range shareMemory(a) {
		overwrite(list)
	}
	if !ok || fmt.Sprint(second) != want || fmt.Sprint(third) != want {
		t.Errorf("results of %s of %+v share memory", name, start)
	}
}

// TestDealingsShareNoMemory takes polynomials of which the dealing is the same list as the coefficients, and sums of one dealing, too.
func TestDealingsShareNoMemory(t *testing.T) {
	for _, start := range allShareStarts() {
		same := start
		same.coefs, same.n = []int{0, 1, 0}, 3
		for _, a := range []shareArgs{start, same} {
			checkOwnDealing(t, "DealShares", a, func(a shareArgs) (impl.Dealing, bool) { return impl.DealShares(a.gr, a.coefs, a.n) })
		}
		for n := 1; n <= len(start.l); n++ {
			checkOwnDealing(t, "SumDealings", start, func(a shareArgs) (impl.Dealing, bool) { return impl.SumDealings(a.gr, a.l[:n]) })
		}
	}
}

// TestListsOfSharesShareNoMemory takes shares that are the numbers of the trustees, too, all of which are wrong.
func TestListsOfSharesShareNoMemory(t *testing.T) {
	for _, start := range allShareStarts() {
		for _, shares := range [][]int{start.d.Shares, firstTrustees(start.n), repeated(start.gr.Q-1, start.n)} {
			a := start
			a.d.Shares = shares
			a = sharesWithSpare(a)
			checkOwnResult(t, fmt.Sprintf("BadShares of %+v", start), func() ([]int, bool) { return impl.BadShares(a.gr, a.d) }, func() { overwrite(a.d.Shares) })
		}
		if start.gr.Q <= 23 {
			a := sharesWithSpare(start)
			checkOwnResult(t, fmt.Sprintf("ShareCounts of %+v", start), func() ([]int, bool) { return impl.ShareCounts(a.gr, a.t, a.known) }, func() { overwrite(a.known) })
		}
	}
}

// TestSharesRepeat checks that a call does not depend on earlier calls.
func TestSharesRepeat(t *testing.T) {
	calls := func() string {
		text := ""
		for _, f := range shareCalls() {
			got := f.call(shareStarts(exampleGroup)[0])
			text += fmt.Sprint(f.name, got.text, got.ok, " ")
		}
		return text
	}
	want := calls()
	for _, gr := range slices.Concat(shareGroups(), noShareGroups, badGroups) {
		for _, f := range shareCalls() {
			a := shareStarts(exampleGroup)[2]
			a.gr = gr
			f.call(a)
		}
		if got := calls(); got != want {
			t.Errorf("the same calls returned %s and then %s", want, got)
		}
	}
}
