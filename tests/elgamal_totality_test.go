package tests

import (
	"fmt"
	"math"
	"slices"
	"testing"

	"loop.example/g00878/impl"
)

// Promise 33 for chapter 6.

// checkElGamalTotal calls all functions with copies of the lists and fails if one of them panics, has a result with false, or touches a list.
func checkElGamalTotal(t *testing.T, a elgamalArgs) {
	t.Helper()
	given := a
	given.l, given.exps = ciphersWithSpare(a.l), withSpare(a.exps)
	for _, f := range elgamalCalls() {
		mustNotPanic(t, fmt.Sprintf("%s of %+v", f.name, a), func() {
			if got := f.call(given); !got.ok && !got.zero {
				t.Errorf("%s of %+v = %s, false", f.name, a, got.text)
			}
		})
		checkCiphersUntouched(t, f.name, given.l, a.l)
		checkUntouched(t, f.name, given.exps, a.exps)
	}
}

// TestElGamalOfExtremesIsTotal puts two extreme integers in all places.
func TestElGamalOfExtremesIsTotal(t *testing.T) {
	for _, gr := range fewGroups() {
		for _, x := range extremes {
			for _, y := range extremes {
				checkElGamalTotal(t, elgamalArgs{gr: gr, key: x, secret: y, m: y, v: x, r: y, e: x, most: x, c: impl.Cipher{A: x, B: y}, l: ciphersOf(x, y), exps: []int{y}})
			}
		}
	}
}

// TestElGamalOfOneExtremeIsTotal puts one extreme integer in the place of a valid argument, so that it is not refused for another one.
func TestElGamalOfOneExtremeIsTotal(t *testing.T) {
	for _, start := range elgamalStarts() {
		for _, x := range extremes {
			for place := range 10 {
				a := start
				places := []*int{&a.key, &a.secret, &a.m, &a.v, &a.r, &a.e, &a.most, &a.c.A, &a.c.B, &a.gr.G}
				*places[place] = x
				checkElGamalTotal(t, a)
			}
		}
	}
}

func TestElGamalOfExtremeGroupsIsTotal(t *testing.T) {
	for _, p := range extremes {
		for _, q := range extremes {
			for _, g := range extremes {
				gr := impl.Group{P: p, Q: q, G: g}
				a := neutralArgs(gr)
				a.l, a.exps = ciphersOf(1, 1), []int{0}
				checkElGamalTotal(t, a)
			}
		}
	}
}

func TestElGamalOfListsIsTotal(t *testing.T) {
	lists := append(someCiphers(), make([]impl.Cipher, 100000), ciphersOf(repeated(math.MaxInt, 2*maxList)...), ciphersOf(repeated(math.MinInt, 2*maxList)...))
	for _, x := range extremes {
		lists = append(lists, ciphersOf(1, 1, x, 1), ciphersOf(1, x, 1, 1))
	}
	integers := extremeLists()
	for _, gr := range []impl.Group{exampleGroup, topGroup, largeGroups[1], {P: 22, Q: 11, G: 2}} {
		for i, l := range lists {
			a := ordinaryArgs(gr)
			for _, exps := range [][]int{repeated(1, len(l)), repeated(math.MinInt, len(l)), integers[i%len(integers)]} {
				a.l, a.exps = l, exps
				checkElGamalTotal(t, a)
			}
		}
	}
}

// TestElGamalKeepsValidLists takes lists for which the calls succeed, too.
func TestElGamalKeepsValidLists(t *testing.T) {
	for _, gr := range allGroups() {
		for _, l := range cipherLists(gr) {
			for _, exps := range exponentLists(gr, len(l)) {
				a := ordinaryArgs(gr)
				a.l, a.exps = l, exps
				checkElGamalTotal(t, a)
			}
		}
	}
}

// TestReencryptAllSharesNoMemory takes coins of 0, too, for which the argument itself would be the right answer.
func TestReencryptAllSharesNoMemory(t *testing.T) {
	for _, gr := range allGroups() {
		for _, l := range cipherLists(gr) {
			for _, rs := range exponentLists(gr, len(l)) {
				given, coins := ciphersWithSpare(l), withSpare(rs)
				first, _ := impl.ReencryptAll(gr, gr.G, given, coins)
				want := slices.Clone(first)
				second, _ := impl.ReencryptAll(gr, gr.G, given, coins)
				clear(first[:cap(first)])
				checkCiphersUntouched(t, "a change of the result of ReencryptAll", given, l)
				third, ok := impl.ReencryptAll(gr, gr.G, given, coins)
				clear(given[:cap(given)])
				overwrite(coins)
				if !ok || !slices.Equal(second, want) || !slices.Equal(third, want) {
					t.Errorf("results of ReencryptAll(%v, %d, %v, %v) share memory", gr, gr.G, l, rs)
				}
			}
		}
	}
}

// TestElGamalRepeats checks that a call does not depend on earlier calls.
func TestElGamalRepeats(t *testing.T) {
	calls := func() string {
		text := ""
		for _, f := range elgamalCalls() {
			got := f.call(ordinaryArgs(exampleGroup))
			text += fmt.Sprint(f.name, got.text, got.ok, " ")
		}
		return text
	}
	want := calls()
	for _, gr := range append(slices.Clone(largeGroups), badGroups...) {
		for _, f := range elgamalCalls() {
			f.call(ordinaryArgs(impl.Group{P: max(gr.P, 2), Q: gr.Q, G: gr.G}))
		}
		if got := calls(); got != want {
			t.Errorf("the same calls returned %s and then %s", want, got)
		}
	}
}
