package tests

import (
	"fmt"
	"math"
	"slices"
	"testing"

	"loop.example/g00878/impl"
)

const (
	maxModulus = impl.MaxModulus
	maxTerms   = impl.MaxTerms

	// topPrime is the greatest prime up to MaxModulus.
	topPrime = 1999999973

	// spareMark fills the capacity behind the lists that withSpare makes.
	spareMark = -987654321
)

// badModuli are integers that no function of chapter 1 takes as a modulus.
var badModuli = []int{math.MinInt, math.MinInt + 1, -maxModulus, -7, -1, 0, 1, maxModulus + 1, 1 << 31, 1 << 32, math.MaxInt - 1, math.MaxInt}

// extremes are integers at the ends of int and at the limits of chapter 1.
var extremes = []int{math.MinInt, math.MinInt + 1, -1 << 32, -maxModulus, -2, -1, 0, 1, 2, 3, 7, 10, 1 << 16, topPrime, maxModulus - 1, maxModulus, maxModulus + 1, 1 << 31, 1 << 32, math.MaxInt - 1, math.MaxInt}

// notResidues returns integers that are not residues modulo m.
func notResidues(m int) []int {
	return []int{math.MinInt, -maxModulus, -m, -1, m, m + 1, 2 * m, maxModulus + 1, math.MaxInt}
}

// repeated returns a list of n elements x.
func repeated(x int, n int) []int {
	return slices.Repeat([]int{x}, n)
}

// withSpare returns a copy of a list with marked spare capacity behind it.
func withSpare(l []int) []int {
	whole := append(slices.Clone(l), repeated(spareMark, 5)...)
	return whole[:len(l):len(whole)]
}

// checkUntouched fails if a list that withSpare made of want was changed, or the capacity behind it.
func checkUntouched(t *testing.T, name string, got []int, want []int) {
	t.Helper()
	if !slices.Equal(got, want) {
		t.Errorf("%s changed its argument %v to %v", name, want, got)
	}
	if spare := got[len(got):cap(got)]; !slices.Equal(spare, repeated(spareMark, 5)) {
		t.Errorf("%s wrote behind its argument %v: %v", name, want, spare)
	}
}

// checkInt fails unless a call returned the wanted integer and true.
func checkInt(t *testing.T, name string, want int, got int, ok bool) {
	t.Helper()
	if !ok || got != want {
		t.Errorf("%s = %d, %v; want %d, true", name, got, ok, want)
	}
}

// checkNoInt fails unless a call returned 0 and false.
func checkNoInt(t *testing.T, name string, got int, ok bool) {
	t.Helper()
	if ok || got != 0 {
		t.Errorf("%s = %d, %v; want 0, false", name, got, ok)
	}
}

// checkNoList fails unless a call returned an empty list and false.
func checkNoList[T any](t *testing.T, name string, got []T, ok bool) {
	t.Helper()
	if ok || len(got) != 0 {
		t.Errorf("%s = %v, %v; want no elements, false", name, got, ok)
	}
}

// outcome is what a call returned: whether its last result is true, and whether all other results are zero.
type outcome struct {
	ok   bool
	zero bool
	text string
}

// outcomeOf returns the outcome of a call with two results.
func outcomeOf[T any](x T, ok bool) outcome {
	var zero T
	return outcome{ok: ok, zero: same(x, zero), text: fmt.Sprint(x)}
}

// tableCall is a function of a table of all functions of a chapter: the arguments that it takes beside a group, by their names in A, and the call with them.
type tableCall[A any] struct {
	name string
	uses []string
	call func(a A) outcome
}

// checkRefused fails unless all functions that take the named argument, or all functions for "", return zero values.
func checkRefused[A any](t *testing.T, calls []tableCall[A], use string, a A) {
	t.Helper()
	used := false
	for _, f := range calls {
		if use != "" && !slices.Contains(f.uses, use) {
			continue
		}
		used = true
		if got := f.call(a); got.ok || !got.zero {
			t.Errorf("%s with a bad argument %s of %+v = %v, %v; want zero values", f.name, use, a, got.text, got.ok)
		}
	}
	if !used {
		t.Errorf("no function takes the argument %s", use)
	}
}
