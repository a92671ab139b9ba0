package tests

import (
	"slices"
	"testing"

	"loop.example/g00878/impl"
)

// Promise 8 for invalid arguments, for which each function returns zero values.

// extractArgs are arguments for all functions of chapter 8: e and z are a challenge and a response, u and v two transcripts, s a statement of equal logarithms, and c and d the commits for it.
type extractArgs struct {
	gr     impl.Group
	base   int
	y      int
	secret int
	coin   int
	e      int
	z      int
	u      impl.Transcript
	v      impl.Transcript
	s      impl.EqualLog
	c      int
	d      int
	l      []impl.EqualLog
	p      impl.Proof
	r      impl.Proof
}

// twoInts are two results of one call.
type twoInts struct {
	first  int
	second int
}

// extractCalls returns all functions of chapter 8. All of them take a group; those that use "counted" take only one of at most MaxCounted elements.
func extractCalls() []tableCall[extractArgs] {
	return []tableCall[extractArgs]{
		{"RespondTo", []string{"secret", "coin", "e"}, func(a extractArgs) outcome { return outcomeOf(impl.RespondTo(a.gr, a.secret, a.coin, a.e)) }},
		{"IsAccepting", []string{"base", "y", "u"}, func(a extractArgs) outcome { return outcomeOf(impl.IsAccepting(a.gr, a.base, a.y, a.u)) }},
		{"SimulateKnowledge", []string{"base", "y", "e", "z"}, func(a extractArgs) outcome {
			return outcomeOf(impl.SimulateKnowledge(a.gr, a.base, a.y, a.e, a.z))
		}},
		{"ExtractKnowledge", []string{"base", "y", "u", "v"}, func(a extractArgs) outcome {
			return outcomeOf(impl.ExtractKnowledge(a.gr, a.base, a.y, a.u, a.v))
		}},
		{"RealTranscripts", []string{"base", "secret", "counted"}, func(a extractArgs) outcome { return outcomeOf(impl.RealTranscripts(a.gr, a.base, a.secret)) }},
		{"SimulatedTranscripts", []string{"base", "y", "counted"}, func(a extractArgs) outcome { return outcomeOf(impl.SimulatedTranscripts(a.gr, a.base, a.y)) }},
		{"SimulateEqual", []string{"s", "e", "z"}, func(a extractArgs) outcome {
			c, d, ok := impl.SimulateEqual(a.gr, a.s, a.e, a.z)
			return outcomeOf(twoInts{c, d}, ok)
		}},
		{"AnswerableChallenges", []string{"s", "c", "d", "other than 1", "counted"}, func(a extractArgs) outcome {
			return outcomeOf(impl.AnswerableChallenges(a.gr, a.s, a.c, a.d))
		}},
		{"ExtractOneOf", []string{"l", "p", "r"}, func(a extractArgs) outcome {
			i, x, ok := impl.ExtractOneOf(a.gr, a.l, a.p, a.r)
			return outcomeOf(twoInts{i, x}, ok)
		}},
	}
}

// extractStarts returns valid arguments of a group, for which all functions succeed that take this group: ordinary ones, the least ones, which are 1 and 0 as far as they can be, and those with the most statements.
func extractStarts(gr impl.Group) []extractArgs {
	inverse, top := wantPower(gr.G, gr.Q-1, gr.P), gr.Q-1
	start := func(base int, secret int, coin int, s impl.EqualLog, n int) extractArgs {
		a := extractArgs{gr: gr, base: base, y: wantPower(base, secret, gr.P), secret: secret, coin: coin, e: top, z: secret, s: s, c: gr.G, d: inverse}
		a.u, a.v = wantRun(gr, base, secret, coin, 1), wantRun(gr, base, secret, coin, 0)
		statement := equalOf(gr, base, inverse, secret)
		l, secrets := slices.Repeat([]impl.EqualLog{statement}, n), repeated(secret, n)
		made := answersOf(gr, l, secrets, repeated(coin, n), repeated(0, n), append(repeated(0, n-1), 1))
		a.l, a.p, a.r = l, made.p, made.r
		return a
	}
	ordinary := start(gr.G, 1, top, exampleOf(gr), 3)
	least := start(1, 0, 0, impl.EqualLog{G1: gr.G, Y1: 1, G2: gr.G, Y2: 1}, 1)
	least.e, least.c, least.d = 0, 1, 1
	longest := start(inverse, gr.Q/2, 1, falseEqualOf(gr), maxRows)
	return []extractArgs{ordinary, least, longest}
}

// allExtractStarts returns the valid arguments of all groups.
func allExtractStarts() []extractArgs {
	var starts []extractArgs
	for _, gr := range append(countedGroups(), uncountedGroups()...) {
		starts = append(starts, extractStarts(gr)...)
	}
	return starts
}

// TestExtractAccepts shows that the arguments are refused for their faults alone, or for a group with too many elements.
func TestExtractAccepts(t *testing.T) {
	for _, a := range allExtractStarts() {
		for _, f := range extractCalls() {
			got := f.call(a)
			if want := a.gr.Q <= maxCounted || !slices.Contains(f.uses, "counted"); got.ok != want {
				t.Errorf("%s of %+v = %v, %v; want %v", f.name, a, got.text, got.ok, want)
			}
		}
	}
}

func TestExtractOfGreatGroups(t *testing.T) {
	for _, gr := range uncountedGroups() {
		for _, a := range extractStarts(gr) {
			checkRefused(t, extractCalls(), "counted", a)
		}
	}
}

func TestExtractOfBadGroups(t *testing.T) {
	for _, gr := range badGroups {
		for _, other := range []impl.Group{exampleGroup, {P: 3, Q: 2, G: 2}} {
			for _, a := range extractStarts(other) {
				a.gr = gr
				checkRefused(t, extractCalls(), "", a)
			}
		}
	}
}

// TestExtractOfOtherGroups takes elements of another group with the same P, and exponents of one with a greater Q.
func TestExtractOfOtherGroups(t *testing.T) {
	least := impl.Group{P: 23, Q: 2, G: 22}
	a := extractStarts(exampleGroup)[0]
	a.gr = least
	for _, use := range []string{"base", "y", "u", "s", "c", "d", "l", "p", "r"} {
		checkRefused(t, extractCalls(), use, a)
	}
	b := extractStarts(least)[0]
	b.secret, b.coin, b.e, b.z = 10, 2, 3, 2
	b.u.Response, b.v.Response = 3, 5
	for _, use := range []string{"secret", "coin", "e", "z", "u", "v"} {
		checkRefused(t, extractCalls(), use, b)
	}
}

// extractPlaces returns the places of a group's elements and of its exponents among arguments, by their uses.
func extractPlaces(a *extractArgs) (elements map[string][]*int, exponents map[string][]*int) {
	elements = map[string][]*int{
		"base": {&a.base}, "y": {&a.y}, "c": {&a.c}, "d": {&a.d}, "u": {&a.u.Commit}, "v": {&a.v.Commit},
		"s": {&a.s.G1, &a.s.Y1, &a.s.G2, &a.s.Y2},
	}
	exponents = map[string][]*int{
		"secret": {&a.secret}, "coin": {&a.coin}, "e": {&a.e}, "z": {&a.z},
		"u": {&a.u.Challenge, &a.u.Response}, "v": {&a.v.Challenge, &a.v.Response},
	}
	return elements, exponents
}

// checkBadPlaces puts bad integers in places and fails unless the functions that take them return zero values.
func checkBadPlaces(t *testing.T, a *extractArgs, places map[string][]*int, bad func(x int) []int) {
	t.Helper()
	for use, list := range places {
		for _, place := range list {
			kept := *place
			for _, x := range bad(kept) {
				*place = x
				checkRefused(t, extractCalls(), use, *a)
			}
			*place = kept
		}
	}
}

func TestExtractOfBadIntegers(t *testing.T) {
	for _, a := range allExtractStarts() {
		elements, exponents := extractPlaces(&a)
		checkBadPlaces(t, &a, elements, func(x int) []int { return append(notElements(a.gr), x+a.gr.P, x-a.gr.P, -x) })
		checkBadPlaces(t, &a, exponents, func(x int) []int { return append(notExponents(a.gr), x+a.gr.Q, x-a.gr.Q) })
	}
}

// TestExtractOfSameBadCommits takes two transcripts and two proofs with the same commit, which is no element.
func TestExtractOfSameBadCommits(t *testing.T) {
	for _, start := range allExtractStarts() {
		for _, x := range append(notElements(start.gr), start.u.Commit+start.gr.P, start.u.Commit-start.gr.P) {
			a := start
			a.u.Commit, a.v.Commit = x, x
			checkRefused(t, extractCalls(), "v", a)
			for i := range a.p.Commits {
				a.p.Commits = replaced(start.p.Commits, i, x)
				a.r.Commits = a.p.Commits
				checkRefused(t, extractCalls(), "p", a)
			}
		}
	}
}

func TestExtractOfBasesOne(t *testing.T) {
	for _, start := range allExtractStarts() {
		for _, y := range []int{1, start.gr.G} {
			a := start
			a.s.G1, a.s.Y1 = 1, y
			checkRefused(t, extractCalls(), "other than 1", a)
			a = start
			a.s.G2, a.s.Y2 = 1, y
			checkRefused(t, extractCalls(), "other than 1", a)
		}
	}
}

// TestExtractOneOfOfBadStatements takes statements with one component that is no element, and no statements or too many, with proofs of as many as would be right.
func TestExtractOneOfOfBadStatements(t *testing.T) {
	for _, start := range allExtractStarts() {
		gr := start.gr
		for i, right := range start.l {
			for _, e := range badEquals(gr, right) {
				a := start
				a.l = slices.Clone(start.l)
				a.l[i] = e
				checkRefused(t, extractCalls(), "l", a)
			}
		}
		for _, n := range []int{0, maxRows + 1, maxList, maxList + 1, 100} {
			a := start
			l := slices.Repeat(start.l[:1], n)
			made := answersOf(gr, l, repeated(start.secret, n), repeated(start.coin, n), repeated(0, n), repeated(1, n))
			a.l, a.p, a.r = l, made.p, made.r
			checkRefused(t, extractCalls(), "l", a)
			a.p, a.r = start.p, start.r
			checkRefused(t, extractCalls(), "l", a)
		}
	}
}

// badProofs returns proofs that have not the form of a valid one: one list has another length, or a bad element at some place, or the lists are exchanged.
func badProofs(gr impl.Group, right impl.Proof) []impl.Proof {
	bad := []impl.Proof{{}, {Commits: right.Commits}, {Challenges: right.Challenges, Responses: right.Responses}, {Commits: right.Challenges, Challenges: right.Commits, Responses: right.Responses}}
	for k, wrong := range [][]int{notElements(gr), notExponents(gr), notExponents(gr)} {
		p := right
		list := listsOfProof(&p)[k]
		for _, l := range badVariants(*list, wrong) {
			*list = l
			bad = append(bad, p)
		}
	}
	return bad
}

func TestExtractOneOfOfBadProofs(t *testing.T) {
	for _, start := range allExtractStarts() {
		a := start
		for _, a.p = range badProofs(start.gr, start.p) {
			checkRefused(t, extractCalls(), "p", a)
			// With the same Commits in both proofs, these are not refused for being different.
			a.r.Commits = a.p.Commits
			checkRefused(t, extractCalls(), "p", a)
			a.r = start.r
		}
		a = start
		for _, a.r = range badProofs(start.gr, start.r) {
			checkRefused(t, extractCalls(), "r", a)
			a.p.Commits = a.r.Commits
			checkRefused(t, extractCalls(), "r", a)
			a.p = start.p
		}
		a = start
		for _, a.p = range badProofs(start.gr, start.p) {
			a.r = a.p
			checkRefused(t, extractCalls(), "r", a)
		}
	}
}
