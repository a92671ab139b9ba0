package tests

import (
	"fmt"
	"math"
	"slices"
	"testing"

	"loop.example/g00878/impl"
)

// Promise 33 for chapter 7.

// rowsWithSpare returns a copy of rows, each with marked spare capacity behind it, and with a row behind the last one.
func rowsWithSpare(rows [][]int) [][]int {
	whole := make([][]int, 0, len(rows)+1)
	for _, row := range rows {
		whole = append(whole, withSpare(row))
	}
	return append(whole, []int{spareMark})[:len(rows)]
}

// statementsWithSpare returns a copy of statements with marked spare capacity behind it.
func statementsWithSpare(l []impl.EqualLog) []impl.EqualLog {
	mark := impl.EqualLog{G1: spareMark, Y1: spareMark, G2: spareMark, Y2: spareMark}
	return append(slices.Clone(l), mark, mark)[:len(l)]
}

// proofWithSpare returns a copy of a proof with marked spare capacity behind its lists.
func proofWithSpare(p impl.Proof) impl.Proof {
	return impl.Proof{Commits: withSpare(p.Commits), Challenges: withSpare(p.Challenges), Responses: withSpare(p.Responses)}
}

// argsWithSpare returns a copy of arguments with marked spare capacity behind all lists.
func argsWithSpare(a sigmaArgs) sigmaArgs {
	a.bases, a.l = rowsWithSpare(a.bases), statementsWithSpare(a.l)
	for _, list := range []*[]int{&a.images, &a.secrets, &a.coins, &a.choices} {
		*list = withSpare(*list)
	}
	for _, p := range []*impl.Proof{&a.linear, &a.known, &a.equal, &a.oneOf} {
		*p = proofWithSpare(*p)
	}
	return a
}

// listsOfArgs returns all lists of integers among arguments, with the capacity behind them.
func listsOfArgs(a sigmaArgs) [][]int {
	lists := append(slices.Clone(a.bases[:cap(a.bases)]), a.images, a.secrets, a.coins, a.choices)
	for _, p := range []impl.Proof{a.linear, a.known, a.equal, a.oneOf} {
		lists = append(lists, p.Commits, p.Challenges, p.Responses)
	}
	for i, l := range lists {
		lists[i] = l[:cap(l)]
	}
	return lists
}

// memoryOf returns a copy of all integers that arguments refer to, with the capacity behind the lists.
func memoryOf(a sigmaArgs) []int {
	return append(slices.Concat(listsOfArgs(a)...), componentsOf(a.l[:cap(a.l)])...)
}

// callSafely returns the outcome of a call and fails if it panics. The texts of long arguments are made only then.
func callSafely[A any](t *testing.T, f tableCall[A], a A) (got outcome) {
	t.Helper()
	defer func() {
		if r := recover(); r != nil {
			t.Errorf("%s of %+v panicked: %v", f.name, a, r)
		}
	}()
	return f.call(a)
}

// checkSigmaTotal calls all functions with copies of the lists and fails if one of them panics, has a result with false, or touches a list.
func checkSigmaTotal(t *testing.T, a sigmaArgs) {
	t.Helper()
	given := argsWithSpare(a)
	before := memoryOf(given)
	for _, f := range sigmaCalls() {
		if got := callSafely(t, f, given); !got.ok && !got.zero {
			t.Errorf("%s of %+v = %s, false", f.name, a, got.text)
		}
	}
	if after := memoryOf(given); !slices.Equal(after, before) {
		t.Errorf("the functions changed %v to %v", before, after)
	}
}

func TestSigmaOfNothingIsTotal(t *testing.T) {
	for _, gr := range anyGroups() {
		checkSigmaTotal(t, sigmaArgs{gr: gr})
	}
}

// TestSigmaOfExtremesIsTotal puts two extreme integers in all places.
func TestSigmaOfExtremesIsTotal(t *testing.T) {
	for _, gr := range fewGroups() {
		for _, x := range extremes {
			for _, y := range extremes {
				p := impl.Proof{Commits: []int{x, y}, Challenges: []int{y}, Responses: []int{x}}
				e := impl.EqualLog{G1: x, Y1: y, G2: y, Y2: x}
				checkSigmaTotal(t, sigmaArgs{gr: gr, bases: [][]int{{x}, {y}}, images: []int{y, x}, secrets: []int{x}, coins: []int{y},
					base: x, y: y, secret: x, coin: y, e: e, l: []impl.EqualLog{e}, which: x, choices: []int{y}, linear: p, known: p, equal: p, oneOf: p})
			}
		}
	}
}

// TestSigmaOfOneExtremeIsTotal puts one extreme integer in the place of a valid argument, so that it is not refused for another one.
func TestSigmaOfOneExtremeIsTotal(t *testing.T) {
	for _, gr := range sigmaGroups {
		for _, start := range sigmaStarts(gr)[:2] {
			for _, x := range extremes {
				a := argsWithSpare(start)
				for _, place := range []*int{&a.gr.P, &a.gr.Q, &a.gr.G, &a.base, &a.y, &a.secret, &a.coin, &a.which, &a.e.G1, &a.e.Y1, &a.e.G2, &a.e.Y2, &a.l[0].G1, &a.l[0].Y2, &a.bases[0][0], &a.images[0], &a.secrets[0], &a.coins[0], &a.choices[0]} {
					kept := *place
					*place = x
					checkSigmaTotal(t, a)
					*place = kept
				}
				for _, p := range []*impl.Proof{&a.linear, &a.known, &a.equal, &a.oneOf} {
					kept := *p
					for _, list := range listsOfProof(p) {
						*list = []int{x}
						checkSigmaTotal(t, a)
						*list = replaced(kept.Commits, 0, x)
						checkSigmaTotal(t, a)
						*p = kept
					}
				}
			}
		}
	}
}

func TestSigmaOfListsIsTotal(t *testing.T) {
	lists := slices.DeleteFunc(extremeLists(), func(l []int) bool { return len(l) > 1000 })
	for _, gr := range []impl.Group{exampleGroup, topGroup, {P: 3, Q: 2, G: 2}, {P: 22, Q: 11, G: 2}} {
		for i, l := range lists {
			for _, a := range sigmaStarts(exampleGroup) {
				a.gr = gr
				other := lists[(i+3)%len(lists)]
				for _, p := range []impl.Proof{{Commits: l}, {Challenges: l}, {Responses: l}, {Commits: l, Challenges: l, Responses: l}, {Commits: l, Challenges: other, Responses: l}} {
					a.linear, a.known, a.equal, a.oneOf = p, p, p, p
					checkSigmaTotal(t, a)
				}
				b := a
				b.bases, b.images = [][]int{l}, other
				checkSigmaTotal(t, b)
				b = a
				b.secrets, b.coins, b.choices = l, l, l
				checkSigmaTotal(t, b)
				b = a
				b.bases, b.images, b.secrets, b.coins = [][]int{l, l}, []int{1, 1}, l, l
				checkSigmaTotal(t, b)
			}
		}
	}
}

func TestSigmaOfLongListsIsTotal(t *testing.T) {
	a := sigmaStarts(exampleGroup)[0]
	a.bases = make([][]int, 100000)
	checkSigmaTotal(t, a)
	a.l, a.choices, a.which = make([]impl.EqualLog, 100000), make([]int, 199999), 99999
	checkSigmaTotal(t, a)
	a.l = slices.Repeat([]impl.EqualLog{onesEqual}, 100000)
	checkSigmaTotal(t, a)
	long := repeated(1, 100000)
	a = sigmaStarts(exampleGroup)[0]
	for _, p := range []impl.Proof{{Commits: long}, {Challenges: long}, {Responses: long}, {Commits: long, Challenges: long, Responses: long}} {
		a.linear, a.known, a.equal, a.oneOf = p, p, p, p
		checkSigmaTotal(t, a)
	}
	for _, label := range longLabels {
		a.label = label
		checkSigmaTotal(t, a)
	}
}

// TestSigmaKeepsValidLists takes arguments for which all calls succeed, too.
func TestSigmaKeepsValidLists(t *testing.T) {
	for _, a := range allSigmaStarts() {
		checkSigmaTotal(t, a)
		for _, which := range []int{math.MinInt, -1, 0, 1, 7, 8, math.MaxInt} {
			a.which = which
			checkSigmaTotal(t, a)
		}
	}
}

// TestSigmaOfSharedMemory takes lists that lie behind each other in one array, and lists that are the same.
func TestSigmaOfSharedMemory(t *testing.T) {
	array := []int{2, 3, 4, 8, 9, 1, 2, 5, 6}
	bases := [][]int{array[:2], array[2:4], array[1:3]}
	p, ok := impl.ProveLinear(exampleGroup, "array", bases, array[5:7], array[6:8])
	checkProof(t, "ProveLinear of parts of an array", wantLinear(exampleGroup, "array", [][]int{{2, 3}, {4, 8}, {3, 4}}, []int{1, 2}, []int{2, 5}), p, ok)
	p, ok = impl.ProveLinear(exampleGroup, "array", [][]int{array[:2], array[:2]}, array[:2], array[:2])
	checkProof(t, "ProveLinear of one list", wantLinear(exampleGroup, "array", [][]int{{2, 3}, {2, 3}}, []int{2, 3}, []int{2, 3}), p, ok)
	if !slices.Equal(array, []int{2, 3, 4, 8, 9, 1, 2, 5, 6}) {
		t.Errorf("the functions changed the array to %v", array)
	}
}

// spoil overwrites all lists of arguments.
func spoil(a sigmaArgs) {
	for _, l := range listsOfArgs(a) {
		overwrite(l)
	}
	clear(a.l[:cap(a.l)])
}

// checkOwnProof fails if the lists of a proof share memory with each other, with another result or with the arguments.
func checkOwnProof(t *testing.T, name string, start sigmaArgs, prove func(a sigmaArgs) (impl.Proof, bool)) {
	t.Helper()
	a := argsWithSpare(start)
	before := memoryOf(a)
	first, _ := prove(a)
	second, _ := prove(a)
	want := fmt.Sprint(second)
	for _, list := range listsOfProof(&first) {
		kept := slices.Clone(*list)
		overwrite(*list)
		*list = kept
		if got := fmt.Sprint(first); got != want {
			t.Errorf("the lists of the result of %s share memory: %s, %s", name, want, got)
		}
	}
	third, ok := prove(a)
	if after := memoryOf(a); !slices.Equal(after, before) {
		t.Errorf("a change of the result of %s changed %v to %v", name, before, after)
	}
	spoil(a)
	if !ok || fmt.Sprint(second) != want || fmt.Sprint(third) != want {
		t.Errorf("results of %s of %+v share memory", name, start)
	}
}

// TestProofsShareNoMemory takes secrets of 0, too, for which the coins are the responses.
func TestProofsShareNoMemory(t *testing.T) {
	for _, a := range allSigmaStarts() {
		checkOwnProof(t, "ProveLinear", a, func(a sigmaArgs) (impl.Proof, bool) {
			return impl.ProveLinear(a.gr, a.label, a.bases, a.secrets, a.coins)
		})
		checkOwnProof(t, "ProveLinear of the secrets 0", a, func(a sigmaArgs) (impl.Proof, bool) {
			return impl.ProveLinear(a.gr, a.label, a.bases, repeated(0, len(a.secrets)), a.coins)
		})
		checkOwnProof(t, "ProveKnowledge", a, func(a sigmaArgs) (impl.Proof, bool) {
			return impl.ProveKnowledge(a.gr, a.label, a.base, a.secret, a.coin)
		})
		checkOwnProof(t, "ProveEqual", a, func(a sigmaArgs) (impl.Proof, bool) {
			return impl.ProveEqual(a.gr, a.label, a.e, a.secret, a.coin)
		})
		checkOwnProof(t, "ProveOneOf", a, func(a sigmaArgs) (impl.Proof, bool) {
			return impl.ProveOneOf(a.gr, a.label, a.l, a.which, a.secret, a.choices)
		})
	}
}

// TestImagesOfSharesNoMemory takes one column of the exponent 1, too, for which the bases are the images.
func TestImagesOfSharesNoMemory(t *testing.T) {
	for _, start := range allSigmaStarts() {
		for _, secrets := range [][]int{start.secrets, repeated(0, len(start.secrets)), repeated(1, len(start.secrets))} {
			start.secrets = secrets
			a := argsWithSpare(start)
			before := memoryOf(a)
			checkOwnResult(t, "ImagesOf", func() ([]int, bool) { return impl.ImagesOf(a.gr, a.bases, a.secrets) }, func() {
				if after := memoryOf(a); !slices.Equal(after, before) {
					t.Errorf("a change of the result of ImagesOf changed %v to %v", before, after)
				}
				spoil(a)
			})
		}
	}
}

// TestSigmaRepeats checks that a call does not depend on earlier calls.
func TestSigmaRepeats(t *testing.T) {
	calls := func() string {
		text := ""
		for _, f := range sigmaCalls() {
			got := f.call(sigmaStarts(exampleGroup)[0])
			text += fmt.Sprint(f.name, got.text, got.ok, " ")
		}
		return text
	}
	want := calls()
	for _, gr := range append(slices.Clone(largeGroups), badGroups...) {
		for _, f := range sigmaCalls() {
			a := sigmaStarts(exampleGroup)[2]
			a.gr = gr
			f.call(a)
		}
		if got := calls(); got != want {
			t.Errorf("the same calls returned %s and then %s", want, got)
		}
	}
}
