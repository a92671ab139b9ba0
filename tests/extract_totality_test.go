package tests

import (
	"fmt"
	"math"
	"slices"
	"testing"

	"loop.example/g00878/impl"
)

// Promise 33 for chapter 8.

// extractMemory returns a copy of all integers that the lists among arguments refer to, with the capacity behind the lists.
func extractMemory(a extractArgs) []int {
	memory := componentsOf(a.l[:cap(a.l)])
	for _, p := range []*impl.Proof{&a.p, &a.r} {
		for _, list := range listsOfProof(p) {
			memory = append(memory, (*list)[:cap(*list)]...)
		}
	}
	return memory
}

// checkExtractTotal calls all functions with copies of the lists and fails if one of them panics, has a result with false, or touches a list.
func checkExtractTotal(t *testing.T, a extractArgs) {
	t.Helper()
	given := a
	given.l, given.p, given.r = statementsWithSpare(a.l), proofWithSpare(a.p), proofWithSpare(a.r)
	before := extractMemory(given)
	for _, f := range extractCalls() {
		if got := callSafely(t, f, given); !got.ok && !got.zero {
			t.Errorf("%s of %+v = %s, false", f.name, a, got.text)
		}
	}
	if after := extractMemory(given); !slices.Equal(after, before) {
		t.Errorf("the functions changed %v to %v", before, after)
	}
}

func TestExtractOfNothingIsTotal(t *testing.T) {
	for _, gr := range anyGroups() {
		checkExtractTotal(t, extractArgs{gr: gr})
	}
}

// TestExtractOfExtremesIsTotal puts two extreme integers in all places.
func TestExtractOfExtremesIsTotal(t *testing.T) {
	for _, gr := range fewGroups() {
		for _, x := range extremes {
			for _, y := range extremes {
				s := impl.EqualLog{G1: x, Y1: y, G2: y, Y2: x}
				checkExtractTotal(t, extractArgs{gr: gr, base: x, y: y, secret: y, coin: x, e: x, z: y, s: s, c: x, d: y, l: []impl.EqualLog{s},
					u: impl.Transcript{Commit: x, Challenge: y, Response: x}, v: impl.Transcript{Commit: x, Challenge: x, Response: y},
					p: impl.Proof{Commits: []int{x, y}, Challenges: []int{y}, Responses: []int{x}}, r: impl.Proof{Commits: []int{x, y}, Challenges: []int{x}, Responses: []int{y}}})
			}
		}
	}
}

// TestExtractOfOneExtremeIsTotal puts one extreme integer in the place of a valid argument, so that it is not refused for another one.
func TestExtractOfOneExtremeIsTotal(t *testing.T) {
	for _, gr := range append(slices.Clone(sigmaGroups), impl.Group{P: 47, Q: maxCounted, G: 2}, impl.Group{P: 59, Q: 29, G: 4}) {
		for _, a := range extractStarts(gr)[:2] {
			elements, exponents := extractPlaces(&a)
			places := []*int{&a.gr.P, &a.gr.Q, &a.gr.G, &a.l[0].G1, &a.l[0].Y1, &a.l[0].G2, &a.l[0].Y2, &a.p.Commits[0], &a.r.Commits[1], &a.p.Challenges[0], &a.r.Responses[0]}
			for _, lists := range []map[string][]*int{elements, exponents} {
				for _, list := range lists {
					places = append(places, list...)
				}
			}
			for _, place := range places {
				kept := *place
				for _, x := range extremes {
					*place = x
					checkExtractTotal(t, a)
				}
				*place = kept
			}
		}
	}
}

// TestExtractOfListsIsTotal takes extreme lists in all lists of the proofs, alone and together.
func TestExtractOfListsIsTotal(t *testing.T) {
	lists := slices.DeleteFunc(extremeLists(), func(l []int) bool { return len(l) > 1000 })
	for _, gr := range []impl.Group{exampleGroup, topGroup, {P: 3, Q: 2, G: 2}, {P: 22, Q: 11, G: 2}} {
		for i, l := range lists {
			other := lists[(i+3)%len(lists)]
			for _, start := range extractStarts(exampleGroup) {
				start.gr = gr
				right, left := start.p, start.r
				for _, p := range []impl.Proof{{}, {Commits: l}, {Commits: l, Challenges: other, Responses: l}, {Commits: l, Challenges: right.Challenges, Responses: right.Responses}, {Commits: right.Commits, Challenges: l, Responses: right.Responses}, {Commits: right.Commits, Challenges: right.Challenges, Responses: l}} {
					for _, r := range []impl.Proof{p, left, {Commits: p.Commits, Challenges: left.Challenges, Responses: left.Responses}} {
						a := start
						a.p, a.r = p, r
						checkExtractTotal(t, a)
						a.p, a.r = r, p
						checkExtractTotal(t, a)
					}
				}
			}
		}
	}
}

func TestExtractOfLongListsIsTotal(t *testing.T) {
	long := repeated(1, 100000)
	for _, start := range extractStarts(exampleGroup) {
		for _, p := range []impl.Proof{{Commits: long}, {Challenges: long}, {Responses: long}, {Commits: long, Challenges: long, Responses: long}} {
			a := start
			a.p, a.r = p, p
			checkExtractTotal(t, a)
			a.l = make([]impl.EqualLog, 100000)
			checkExtractTotal(t, a)
			a.l = slices.Repeat([]impl.EqualLog{onesEqual}, 100000)
			checkExtractTotal(t, a)
		}
	}
}

// TestExtractKeepsValidLists takes arguments for which all calls succeed, too.
func TestExtractKeepsValidLists(t *testing.T) {
	for _, a := range allExtractStarts() {
		checkExtractTotal(t, a)
		a.l = nil
		checkExtractTotal(t, a)
	}
}

// TestExtractOneOfOfSharedMemory takes proofs whose lists lie behind each other in one array, and one proof as both.
func TestExtractOneOfOfSharedMemory(t *testing.T) {
	array := []int{9, 9, 4, 6, 1, 8}
	l := []impl.EqualLog{{G1: 2, Y1: 8, G2: 2, Y2: 8}}
	p := impl.Proof{Commits: array[:2], Challenges: array[2:3], Responses: array[3:4]}
	r := impl.Proof{Commits: array[:2], Challenges: array[4:5], Responses: array[5:]}
	checkFoundExponent(t, exampleGroup, l, p, r, 0, exampleSecret)
	checkNotFound(t, exampleGroup, l, p, p)
	if !slices.Equal(array, []int{9, 9, 4, 6, 1, 8}) {
		t.Errorf("the functions changed the array to %v", array)
	}
}

// checkOwnTranscripts fails if a change of a result changes another one.
func checkOwnTranscripts(t *testing.T, name string, call func() ([]impl.Transcript, bool)) {
	t.Helper()
	first, _ := call()
	want := slices.Clone(first)
	second, _ := call()
	for i := range first[:cap(first)] {
		first[:cap(first)][i] = impl.Transcript{Commit: spareMark}
	}
	third, ok := call()
	if !ok || !slices.Equal(second, want) || !slices.Equal(third, want) {
		t.Errorf("results of %s share memory", name)
	}
}

func TestTranscriptsShareNoMemory(t *testing.T) {
	for _, gr := range countedGroups() {
		for _, base := range []int{1, gr.G} {
			checkOwnTranscripts(t, "RealTranscripts", func() ([]impl.Transcript, bool) { return impl.RealTranscripts(gr, base, gr.Q-1) })
			checkOwnTranscripts(t, "SimulatedTranscripts", func() ([]impl.Transcript, bool) { return impl.SimulatedTranscripts(gr, base, gr.G) })
		}
	}
}

// TestExtractRepeats checks that a call does not depend on earlier calls.
func TestExtractRepeats(t *testing.T) {
	calls := func() string {
		text := ""
		for _, f := range extractCalls() {
			got := f.call(extractStarts(exampleGroup)[0])
			text += fmt.Sprint(f.name, got.text, got.ok, " ")
		}
		return text
	}
	want := calls()
	for _, gr := range append(slices.Clone(largeGroups), badGroups...) {
		for _, f := range extractCalls() {
			a := extractStarts(exampleGroup)[2]
			a.gr = gr
			f.call(a)
		}
		if got := calls(); got != want {
			t.Errorf("the same calls returned %s and then %s", want, got)
		}
	}
	impl.RespondTo(exampleGroup, math.MaxInt, math.MaxInt, math.MaxInt)
	if got := calls(); got != want {
		t.Errorf("the same calls returned %s and then %s", want, got)
	}
}
