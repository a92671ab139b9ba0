package tests

import (
	"fmt"
	"math"
	"slices"
	"testing"

	"loop.example/g00878/impl"
)

// Promise 33: every function accepts all arguments without panicking and modifies none of them, and no result shares memory with an argument.

// mustNotPanic calls f and fails if it panics.
func mustNotPanic(t *testing.T, name string, f func()) {
	t.Helper()
	defer func() {
		if r := recover(); r != nil {
			t.Errorf("%s panicked: %v", name, r)
		}
	}()
	f()
}

// extremeLists are lists of extreme integers, and lists of lengths at the limits and far beyond.
func extremeLists() [][]int {
	lists := [][]int{nil, {}, extremes, repeated(1, maxTerms), repeated(1, maxTerms+1), repeated(math.MaxInt, maxTerms), repeated(math.MinInt, maxTerms), repeated(0, 100000)}
	for _, x := range extremes {
		lists = append(lists, []int{x}, []int{1, x})
	}
	return lists
}

func TestNumberFunctionsOfOneIntegerAreTotal(t *testing.T) {
	for _, n := range extremes {
		mustNotPanic(t, fmt.Sprintf("IsPrime(%d)", n), func() {
			if prime, ok := impl.IsPrime(n); ok != (0 <= n && n <= maxModulus) || prime && !ok {
				t.Errorf("IsPrime(%d) = %v, %v", n, prime, ok)
			}
		})
		mustNotPanic(t, fmt.Sprintf("FactorOf(%d)", n), func() {
			if l, ok := impl.FactorOf(n); ok != (1 <= n && n <= maxModulus) || len(l) > 0 && !ok {
				t.Errorf("FactorOf(%d) = %v, %v", n, l, ok)
			}
		})
		mustNotPanic(t, fmt.Sprintf("PrimitiveRoot(%d)", n), func() {
			prime, _ := impl.IsPrime(n)
			if g, ok := impl.PrimitiveRoot(n); ok != prime || ok != (g > 0) {
				t.Errorf("PrimitiveRoot(%d) = %v, %v", n, g, ok)
			}
		})
	}
}

func TestNumberFunctionsOfMoreIntegersAreTotal(t *testing.T) {
	for _, a := range extremes {
		for _, m := range extremes {
			residue := 2 <= m && m <= maxModulus && 0 <= a && a < m
			mustNotPanic(t, fmt.Sprintf("InverseMod(%d, %d)", a, m), func() {
				if x, ok := impl.InverseMod(a, m); ok && (!residue || x < 1 || x >= m) || !ok && x != 0 {
					t.Errorf("InverseMod(%d, %d) = %d, %v", a, m, x, ok)
				}
			})
			mustNotPanic(t, fmt.Sprintf("LegendreOf(%d, %d)", a, m), func() {
				prime, _ := impl.IsPrime(m)
				if s, ok := impl.LegendreOf(a, m); ok != (residue && prime && m != 2) || s < -1 || s > 1 || !ok && s != 0 {
					t.Errorf("LegendreOf(%d, %d) = %d, %v", a, m, s, ok)
				}
			})
			for _, e := range extremes {
				mustNotPanic(t, fmt.Sprintf("PowerMod(%d, %d, %d)", a, e, m), func() {
					x, ok := impl.PowerMod(a, e, m)
					if ok != (residue && 0 <= e && e <= maxModulus) || ok && (x < 0 || x >= m) || !ok && x != 0 {
						t.Errorf("PowerMod(%d, %d, %d) = %d, %v", a, e, m, x, ok)
					}
				})
			}
		}
	}
}

// checkListCalls calls the functions of lists with copies of two lists and fails if one of them panics, has a result with false, or touches a list.
func checkListCalls(t *testing.T, a []int, b []int, m int) {
	t.Helper()
	first, second := withSpare(a), withSpare(b)
	mustNotPanic(t, "SumMod", func() {
		if x, ok := impl.SumMod(first, m); !ok && x != 0 {
			t.Errorf("SumMod(%v, %d) = %d, false", a, m, x)
		}
	})
	checkUntouched(t, "SumMod", first, a)
	mustNotPanic(t, "DotMod", func() {
		if x, ok := impl.DotMod(first, second, m); !ok && x != 0 {
			t.Errorf("DotMod(%v, %v, %d) = %d, false", a, b, m, x)
		}
	})
	checkUntouched(t, "DotMod", first, a)
	checkUntouched(t, "DotMod", second, b)
	mustNotPanic(t, "InvertAll", func() {
		if l, ok := impl.InvertAll(first, m); !ok && len(l) != 0 {
			t.Errorf("InvertAll(%v, %d) = %v, false", a, m, l)
		}
	})
	checkUntouched(t, "InvertAll", first, a)
}

func TestNumberFunctionsOfListsAreTotal(t *testing.T) {
	lists := extremeLists()
	for _, m := range extremes {
		for i, a := range lists {
			checkListCalls(t, a, lists[len(lists)-1-i], m)
			checkListCalls(t, a, a, m)
		}
	}
}

func TestNumberFunctionsKeepValidLists(t *testing.T) {
	for _, m := range []int{2, 3, 97, topPrime, maxModulus} {
		for _, l := range listsOf(m) {
			checkListCalls(t, l, repeated(m-1, len(l)), m)
			checkListCalls(t, repeated(1, len(l)), l, m)
		}
	}
}

// overwrite changes all elements of a result, also behind its length.
func overwrite(l []int) {
	for i := range l[:cap(l)] {
		l[:cap(l)][i] = -1
	}
}

// TestInvertAllSharesNoMemory takes lists that are their own inverses, too, for which the argument itself would be the right answer.
func TestInvertAllSharesNoMemory(t *testing.T) {
	for _, l := range [][]int{nil, {1}, {1, 96}, {1, 2, 3}, repeated(1, maxTerms), repeated(5, maxTerms)} {
		arg := withSpare(l)
		first, ok := impl.InvertAll(arg, 97)
		want := slices.Clone(first)
		second, _ := impl.InvertAll(arg, 97)
		overwrite(first)
		checkUntouched(t, "a change of the result of InvertAll", arg, l)
		if !ok || !slices.Equal(second, want) {
			t.Errorf("two results of InvertAll(%v, 97) share memory", l)
		}
		overwrite(arg)
		if !slices.Equal(second, want) {
			t.Errorf("a change of the argument changed InvertAll(%v, 97)", l)
		}
	}
}

func TestFactorOfKeepsNoMemory(t *testing.T) {
	for _, n := range []int{2, 12, 30030, 1 << 30, topPrime, maxModulus} {
		first, _ := impl.FactorOf(n)
		want := slices.Clone(first)
		second, _ := impl.FactorOf(n)
		for i := range first {
			first[i] = impl.PrimePower{}
		}
		third, _ := impl.FactorOf(n)
		if !slices.Equal(second, want) || !slices.Equal(third, want) {
			t.Errorf("results of FactorOf(%d) share memory", n)
		}
	}
}

// TestNumberFunctionsRepeat checks that a call does not depend on earlier calls.
func TestNumberFunctionsRepeat(t *testing.T) {
	calls := func() string {
		inverse, _ := impl.InverseMod(3, 10)
		power, _ := impl.PowerMod(2, 10, 1000)
		sum, _ := impl.SumMod([]int{3, 4, 5}, 7)
		dot, _ := impl.DotMod([]int{1, 2}, []int{3, 4}, 7)
		inverses, _ := impl.InvertAll([]int{1, 3}, 10)
		prime, _ := impl.IsPrime(topPrime)
		factors, _ := impl.FactorOf(maxModulus)
		root, _ := impl.PrimitiveRoot(7)
		legendre, _ := impl.LegendreOf(3, 7)
		return fmt.Sprint(inverse, power, sum, dot, inverses, prime, factors, root, legendre)
	}
	want := calls()
	impl.InverseMod(math.MinInt, math.MaxInt)
	impl.InvertAll([]int{1, 0}, 2)
	impl.FactorOf(0)
	impl.LegendreOf(2, 2)
	if got := calls(); got != want {
		t.Errorf("the same calls returned %s and then %s", want, got)
	}
}
