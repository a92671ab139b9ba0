package tests

import (
	"fmt"
	"slices"
	"testing"

	"loop.example/g00878/impl"
)

// Promise 33 for chapter 12.

// listsOfDealings returns the addresses of the lists of dealings.
func listsOfDealings(l []impl.Dealing) []*[]int {
	var lists []*[]int
	for i := range l {
		lists = append(lists, listsOfDealing(&l[i])...)
	}
	return lists
}

// listsOfRows returns the addresses of rows.
func listsOfRows(rows [][]int) []*[]int {
	var lists []*[]int
	for i := range rows {
		lists = append(lists, &rows[i])
	}
	return lists
}

// listsOfKeyGen returns the addresses of the lists of an outcome.
func listsOfKeyGen(k *impl.KeyGen) []*[]int {
	return []*[]int{&k.Qualified, &k.Commits, &k.Shares}
}

// dkgLists returns the addresses of all lists of integers among arguments.
func dkgLists(a *dkgArgs) []*[]int {
	return slices.Concat(listsOfRows(a.polys), listsOfDealings(a.p.l), listsOfRows(a.p.answers), listsOfKeyGen(&a.k), []*[]int{&a.coefs}, listsOfDealing(&a.d), listsOfProof(&a.pi))
}

// dkgWithSpare returns a copy of arguments with marked spare capacity behind all lists.
func dkgWithSpare(a dkgArgs) dkgArgs {
	whole := append(slices.Clone(a.p.l), impl.Dealing{Commits: []int{spareMark}, Shares: []int{spareMark}})
	a.p.l = whole[:len(a.p.l)]
	faults := append(slices.Clone(a.faults), impl.Fault{Dealer: spareMark, Trustee: spareMark, Delta: spareMark})
	a.faults = faults[:len(a.faults)]
	a.polys, a.p.answers = rowsWithSpare(a.polys), rowsWithSpare(a.p.answers)
	for _, list := range dkgLists(&a) {
		*list = withSpare(*list)
	}
	return a
}

// dkgMemory returns all lists of integers among arguments, and the faults as integers, with the capacity behind the lists.
func dkgMemory(a dkgArgs) [][]int {
	a.polys, a.p.answers, a.p.l = a.polys[:cap(a.polys)], a.p.answers[:cap(a.p.answers)], a.p.l[:cap(a.p.l)]
	var lists [][]int
	for _, list := range dkgLists(&a) {
		l := *list
		lists = append(lists, l[:cap(l)])
	}
	for _, f := range a.faults[:cap(a.faults)] {
		numbers := []int{f.Dealer, f.Trustee, f.Delta, 0}
		if f.Answers {
			numbers[3] = 1
		}
		lists = append(lists, numbers)
	}
	return lists
}

// checkDkgTotal calls all functions with copies of the lists and fails if one of them panics, has a result with false, or touches a list.
func checkDkgTotal(t *testing.T, a dkgArgs) {
	t.Helper()
	given := dkgWithSpare(a)
	before := slices.Concat(dkgMemory(given)...)
	for _, f := range dkgCalls() {
		if got := callSafely(t, f, given); !got.ok && !got.zero {
			t.Errorf("%s of %+v = %s, false", f.name, a, got.text)
		}
	}
	if after := slices.Concat(dkgMemory(given)...); !slices.Equal(after, before) {
		t.Errorf("the functions changed %v to %v", before, after)
	}
}

func TestDkgOfNothingIsTotal(t *testing.T) {
	for _, gr := range append(anyGroups(), noShareGroups...) {
		checkDkgTotal(t, dkgArgs{gr: gr})
		checkDkgTotal(t, dkgArgs{gr: gr, polys: make([][]int, 2), faults: make([]impl.Fault, 2), p: played{make([]impl.Dealing, 2), make([][]int, 2)}})
	}
}

// TestDkgOfExtremesIsTotal puts two extreme integers in all places.
func TestDkgOfExtremesIsTotal(t *testing.T) {
	for _, gr := range append(fewGroups(), noShareGroups...) {
		for _, x := range extremes {
			for _, y := range extremes {
				d := impl.Dealing{Commits: []int{x}, Shares: []int{y, x}}
				p := impl.Proof{Commits: []int{x}, Challenges: []int{y}, Responses: []int{x}}
				checkDkgTotal(t, dkgArgs{gr: gr, polys: [][]int{{x}, {y}}, faults: []impl.Fault{{Dealer: x, Trustee: y, Delta: x, Answers: true}, {Dealer: y, Trustee: x, Delta: y}}, p: played{[]impl.Dealing{d, d}, [][]int{{x}, {y, x}}},
					k: impl.KeyGen{Qualified: []int{y}, Key: x, Commits: []int{x, y}, Shares: []int{y}}, i: y, coefs: []int{x, y}, coin: y, d: d, pi: p})
			}
		}
	}
}

// dkgPlaces returns the places of all integers among arguments that stand for themselves, and of the first and the last one of each list.
func dkgPlaces(a *dkgArgs) []*int {
	places := []*int{&a.gr.P, &a.gr.Q, &a.gr.G, &a.k.Key, &a.i, &a.coin}
	for i := range a.faults {
		places = append(places, &a.faults[i].Dealer, &a.faults[i].Trustee, &a.faults[i].Delta)
	}
	for _, list := range dkgLists(a) {
		if l := *list; len(l) > 0 {
			places = append(places, &l[0], &l[len(l)-1])
		}
	}
	return places
}

// TestDkgOfOneExtremeIsTotal puts one extreme integer in the place of a valid argument, so that it is not refused for another one.
func TestDkgOfOneExtremeIsTotal(t *testing.T) {
	for _, gr := range []impl.Group{exampleGroup, {P: 47, Q: 23, G: 2}, topGroup} {
		for _, start := range dkgStarts(gr) {
			a := dkgWithSpare(start)
			for _, place := range dkgPlaces(&a) {
				kept := *place
				for _, x := range extremes {
					*place = x
					checkDkgTotal(t, a)
				}
				*place = kept
			}
		}
	}
}

// TestDkgOfListsIsTotal takes extreme lists in the place of each list, and in all places.
func TestDkgOfListsIsTotal(t *testing.T) {
	lists := append(extremeLists(), repeated(2, maxList), repeated(2, maxList+1), repeated(1, maxTrustees), repeated(1, maxTrustees+1), firstTrustees(maxTrustees), repeated(2, 3))
	for _, gr := range []impl.Group{exampleGroup, topGroup, {P: 7, Q: 3, G: 2}, {P: 29, Q: 7, G: 7}, {P: 22, Q: 11, G: 2}, {}} {
		start := dkgStarts(exampleGroup)[0]
		start.gr = gr
		places := dkgLists(&start)
		for _, l := range lists {
			for _, place := range places {
				kept := *place
				*place = l
				checkDkgTotal(t, start)
				*place = kept
			}
		}
		for _, l := range lists {
			for _, place := range places {
				*place = l
			}
			checkDkgTotal(t, start)
		}
	}
}

// TestDkgOfOtherNumbersIsTotal takes lists of any lengths of polynomials, faults, dealings and answers, each beside valid ones of the others.
func TestDkgOfOtherNumbersIsTotal(t *testing.T) {
	for _, start := range slices.Concat(dkgStarts(exampleGroup), dkgStarts(topGroup)) {
		for _, n := range []int{0, 1, 2, 3, 6, 7, 8, 20, 21, 1000, 10000} {
			for _, change := range []func(a *dkgArgs){
				func(a *dkgArgs) { a.polys = slices.Repeat(a.polys[:1], n) },
				func(a *dkgArgs) { a.polys = make([][]int, n) },
				func(a *dkgArgs) { a.faults = slices.Repeat(faultsOf([4]int{1, 1, 1, 1}), n) },
				func(a *dkgArgs) { a.faults = make([]impl.Fault, n) },
				func(a *dkgArgs) { a.p.l = slices.Repeat(a.p.l[:1], n) },
				func(a *dkgArgs) { a.p.l = make([]impl.Dealing, n) },
				func(a *dkgArgs) { a.p.answers = slices.Repeat([][]int{{1}}, n) },
				func(a *dkgArgs) { a.p.answers = make([][]int, n) },
				func(a *dkgArgs) { a.p = played{slices.Repeat(a.p.l[:1], n), make([][]int, n)} },
				func(a *dkgArgs) {
					a.polys, a.faults = slices.Repeat(a.polys[:1], n), slices.Repeat(faultsOf([4]int{n, n, 1, 0}), n)
				},
				func(a *dkgArgs) {
					long := repeated(1, n)
					a.k, a.coefs, a.d = impl.KeyGen{Qualified: long, Commits: long, Shares: long}, long, impl.Dealing{Commits: long, Shares: long}
				},
			} {
				a := start
				change(&a)
				checkDkgTotal(t, a)
			}
		}
	}
}

// TestDkgKeepsValidLists takes arguments for which all calls succeed, too, and the outcome of nothing.
func TestDkgKeepsValidLists(t *testing.T) {
	for _, a := range allDkgStarts() {
		checkDkgTotal(t, a)
		a.k = impl.KeyGen{}
		checkDkgTotal(t, a)
	}
}

// TestDkgOfSharedMemory takes lists that lie behind each other in one array, and one list for several purposes.
func TestDkgOfSharedMemory(t *testing.T) {
	array := []int{8, 2, 4, 6, 16, 4, 6, 8, 5, 3, 1, 4, 2}
	before := slices.Clone(array)
	l := []impl.Dealing{{Commits: array[:2], Shares: array[2:4]}, {Commits: array[4:6], Shares: array[6:8]}}
	want := impl.KeyGen{Qualified: []int{1, 2}, Key: 13, Commits: []int{13, 8}, Shares: []int{10, 2}}
	got, ok := impl.CombineKey(exampleGroup, l, [][]int{array[8:9], array[9:9]})
	checkSame(t, "CombineKey of parts of an array", want, got, ok)
	code, ok := impl.CheckKeyGen(exampleGroup, l, [][]int{array[8:9], array[:0]}, got)
	checkInt(t, "CheckKeyGen of parts of an array", impl.KgDone, code, ok)
	complaints, ok := impl.ComplaintsIn(exampleGroup, l)
	checkSame(t, "ComplaintsIn of parts of an array", [][]int{{2}, nil}, complaints, ok)
	dealt, ok := play(exampleGroup, [][]int{array[9:11], array[11:13]}, faultsOf([4]int{1, 2, 1, 1}))
	checkSame(t, "PlayDealers of parts of an array", played{l, [][]int{{5}, nil}}, dealt, ok)
	// Both dealers have the same lists, and at first one list is their commitments and their shares.
	d := impl.Dealing{Commits: array[:2], Shares: array[:2]}
	checkOutcome(t, exampleGroup, []impl.Dealing{d, d}, [][]int{{4, 5}, {4, 5}})
	d = impl.Dealing{Commits: array[4:6], Shares: array[6:8]}
	checkOutcome(t, exampleGroup, []impl.Dealing{d, d}, make([][]int, 2))
	dealt, ok = play(exampleGroup, [][]int{array[9:11], array[9:11]}, faultsOf([4]int{1, 1, 1, 1}))
	checkSame(t, "PlayDealers of one polynomial", played{[]impl.Dealing{{Commits: []int{8, 2}, Shares: []int{5, 5}}, {Commits: []int{8, 2}, Shares: []int{4, 5}}}, [][]int{{4}, nil}}, dealt, ok)
	if !slices.Equal(array, before) {
		t.Errorf("the functions changed the array to %v", array)
	}
}

// checkOwnDkg fails if the lists of a result share memory with each other, with another result or with the arguments. The lists are those whose addresses listsOf returns.
func checkOwnDkg[T any](t *testing.T, name string, start dkgArgs, call func(a dkgArgs) (T, bool), listsOf func(x *T) []*[]int) {
	t.Helper()
	a := dkgWithSpare(start)
	before := slices.Concat(dkgMemory(a)...)
	first, _ := call(a)
	second, _ := call(a)
	want := fmt.Sprint(second)
	for _, list := range listsOf(&first) {
		kept := slices.Clone(*list)
		overwrite(*list)
		*list = kept
		if got := fmt.Sprint(first); got != want {
			t.Errorf("the lists of the result of %s share memory: %s, %s", name, want, got)
		}
	}
	third, ok := call(a)
	if after := slices.Concat(dkgMemory(a)...); !slices.Equal(after, before) {
		t.Errorf("a change of the result of %s changed %v to %v", name, before, after)
	}
	for _, l := range dkgMemory(a) {
		overwrite(l)
	}
	if !ok || fmt.Sprint(second) != want || fmt.Sprint(third) != want {
		t.Errorf("results of %s of %+v share memory", name, start)
	}
}

// TestDkgSharesNoMemory takes games without faults, too, in which there are no answers, and polynomials of which the dealing is the same list as the coefficients.
func TestDkgSharesNoMemory(t *testing.T) {
	starts := allDkgStarts()
	for _, gr := range shareGroups() {
		starts = append(starts, withGame(dkgArgs{gr: gr, polys: [][]int{{0, 1, 0}, {1, 1, 0}, {1, 0, 0}}, i: 1}), withGame(dkgArgs{gr: gr, polys: [][]int{{3, 1}, {4, 2}}, faults: faultsOf([4]int{1, 2, 1, 0}), i: 1}))
	}
	for _, a := range starts {
		checkOwnDkg(t, "PlayDealers", a, func(a dkgArgs) (played, bool) { return play(a.gr, a.polys, a.faults) }, func(p *played) []*[]int {
			return append(listsOfDealings(p.l), listsOfRows(p.answers)...)
		})
		checkOwnDkg(t, "ComplaintsIn", a, func(a dkgArgs) ([][]int, bool) { return impl.ComplaintsIn(a.gr, a.p.l) }, func(l *[][]int) []*[]int { return listsOfRows(*l) })
		checkOwnDkg(t, "QualifiedIn", a, func(a dkgArgs) ([]int, bool) { return impl.QualifiedIn(a.gr, a.p.l, a.p.answers) }, func(l *[]int) []*[]int { return []*[]int{l} })
		checkOwnDkg(t, "CombineKey", a, func(a dkgArgs) (impl.KeyGen, bool) { return impl.CombineKey(a.gr, a.p.l, a.p.answers) }, listsOfKeyGen)
		checkOwnDkg(t, "ProveDealer", a, func(a dkgArgs) (impl.Proof, bool) { return impl.ProveDealer(a.gr, a.coefs, a.coin) }, listsOfProof)
	}
}

// TestDealersShareNoMemory changes the lists of dealings and of answers that PlayDealers returns, and those of complaints, by their indices.
func TestDealersShareNoMemory(t *testing.T) {
	for _, a := range allDkgStarts() {
		first, _ := play(a.gr, a.polys, a.faults)
		second, _ := play(a.gr, a.polys, a.faults)
		want := fmt.Sprint(second)
		for i := range first.l {
			first.l[i], first.answers[i] = impl.Dealing{}, []int{-1}
		}
		if got := fmt.Sprint(second); got != want {
			t.Errorf("the results of PlayDealers(%v, %v, %v) share memory: %s, %s", a.gr, a.polys, a.faults, want, got)
		}
		complaints, _ := impl.ComplaintsIn(a.gr, a.p.l)
		others, _ := impl.ComplaintsIn(a.gr, a.p.l)
		want = fmt.Sprint(others)
		for i := range complaints {
			complaints[i] = []int{-1}
		}
		if got := fmt.Sprint(others); got != want {
			t.Errorf("the results of ComplaintsIn(%v, %v) share memory: %s, %s", a.gr, a.p.l, want, got)
		}
	}
}

// TestDkgRepeats checks that a call does not depend on earlier calls.
func TestDkgRepeats(t *testing.T) {
	calls := func() string {
		text := ""
		for _, f := range dkgCalls() {
			got := f.call(dkgStarts(exampleGroup)[0])
			text += fmt.Sprint(f.name, got.text, got.ok, " ")
		}
		return text
	}
	want := calls()
	for _, gr := range slices.Concat(shareGroups(), noShareGroups, badGroups) {
		for _, f := range dkgCalls() {
			a := dkgStarts(exampleGroup)[2]
			a.gr = gr
			f.call(a)
		}
		if got := calls(); got != want {
			t.Errorf("the same calls returned %s and then %s", want, got)
		}
	}
}
