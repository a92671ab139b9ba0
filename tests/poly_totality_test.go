package tests

import (
	"fmt"
	"math"
	"slices"
	"testing"

	"loop.example/g00878/impl"
)

// Promise 33 for chapter 5.

// anyModuli are extreme integers, moduli of polynomials and others.
func anyModuli() []int {
	return slices.Concat(extremes, fieldPrimes, notPrimes)
}

// anyFieldLists are lists of extreme integers and lists of lengths at the limits of chapter 5 and far beyond.
func anyFieldLists() [][]int {
	return append(extremeLists(), repeated(1, maxList), repeated(1, maxList+1), counting(maxList), counting(maxList+1), repeated(math.MaxInt, maxList), repeated(math.MinInt, maxList), counting(3), []int{2, 0, 1}, []int{0, 0})
}

// checkPolyCalls calls the functions of one list with a copy of a list and fails if one of them panics, has a result with false, or touches the list.
func checkPolyCalls(t *testing.T, q int, l []int, x int) {
	t.Helper()
	given := withSpare(l)
	checkTotalCall(t, "EvalPoly", func() (int, bool) { return impl.EvalPoly(q, given, x) })
	checkUntouched(t, "EvalPoly", given, l)
	checkTotalCall(t, "DegreeOf", func() (int, bool) { return impl.DegreeOf(q, given) })
	checkUntouched(t, "DegreeOf", given, l)
	checkTotalCall(t, "PolyFromRoots", func() ([]int, bool) { return impl.PolyFromRoots(q, given) })
	checkUntouched(t, "PolyFromRoots", given, l)
	checkTotalCall(t, "LagrangeCoefs", func() ([]int, bool) { return impl.LagrangeCoefs(q, given, x) })
	checkUntouched(t, "LagrangeCoefs", given, l)
}

// polyPairs are the functions of two lists. ValueFrom takes 1 as x and returns its value as a list.
func polyPairs() map[string]func(int, []int, []int) ([]int, bool) {
	return map[string]func(int, []int, []int) ([]int, bool){
		"EvalAll":     impl.EvalAll,
		"AddPolys":    impl.AddPolys,
		"MulPolys":    impl.MulPolys,
		"Interpolate": impl.Interpolate,
		"ValueFrom": func(q int, xs []int, ys []int) ([]int, bool) {
			y, ok := impl.ValueFrom(q, xs, ys, 1)
			if !ok && y == 0 {
				return nil, false
			}
			return []int{y}, ok
		},
	}
}

// checkPolyPairs calls the functions of two lists with copies of two lists, and with one copy for both if they are equal, and fails if one of them panics, has a result with false, or touches a list.
func checkPolyPairs(t *testing.T, q int, a []int, b []int) {
	t.Helper()
	first, second := withSpare(a), withSpare(b)
	if slices.Equal(a, b) {
		second = first
	}
	for name, call := range polyPairs() {
		checkTotalCall(t, name, func() ([]int, bool) { return call(q, first, second) })
		checkUntouched(t, name, first, a)
		checkUntouched(t, name, second, b)
	}
}

func TestPolyFunctionsOfOneListAreTotal(t *testing.T) {
	lists := anyFieldLists()
	for _, q := range anyModuli() {
		for i, l := range lists {
			checkPolyCalls(t, q, l, extremes[i%len(extremes)])
			checkPolyCalls(t, q, l, 1)
		}
	}
	for _, q := range extremes {
		for _, x := range extremes {
			for _, c := range extremes {
				checkPolyCalls(t, q, []int{c}, x)
				checkPolyCalls(t, q, []int{c, 1}, x)
			}
		}
	}
}

func TestPolyFunctionsOfTwoListsAreTotal(t *testing.T) {
	lists := anyFieldLists()
	for _, q := range anyModuli() {
		for i, l := range lists {
			checkPolyPairs(t, q, l, l)
			checkPolyPairs(t, q, l, nil)
			checkPolyPairs(t, q, nil, l)
			checkPolyPairs(t, q, l, repeated(1, len(l)))
			checkPolyPairs(t, q, counting(min(len(l), maxTerms)), l)
			checkPolyPairs(t, q, l, lists[len(lists)-1-i])
		}
	}
}

func TestValueFromIsTotal(t *testing.T) {
	for _, q := range extremes {
		for _, x := range extremes {
			for _, y := range extremes {
				checkTotalCall(t, "ValueFrom", func() (int, bool) { return impl.ValueFrom(q, []int{y}, []int{x}, y) })
				checkTotalCall(t, "ValueFrom", func() (int, bool) { return impl.ValueFrom(q, []int{1}, []int{y}, x) })
				checkTotalCall(t, "ValueFrom", func() (int, bool) { return impl.ValueFrom(q, []int{1, y}, []int{y, x}, 0) })
			}
		}
	}
}

// TestPolyFunctionsKeepValidLists takes lists for which the calls return true, too.
func TestPolyFunctionsKeepValidLists(t *testing.T) {
	for _, q := range fieldPrimes {
		for _, l := range slices.Concat(somePolys(q), somePoints(q), rootLists(q)) {
			checkPolyCalls(t, q, l, q-1)
			checkPolyPairs(t, q, l, l)
			checkPolyPairs(t, q, l, repeated(q-1, len(l)))
			checkPolyPairs(t, q, l, []int{1})
			checkPolyPairs(t, q, []int{1}, l)
		}
	}
}

// TestPolyFunctionsOfSharedMemory takes lists that lie over each other in one array.
func TestPolyFunctionsOfSharedMemory(t *testing.T) {
	array := counting(9)
	sum, ok := impl.AddPolys(11, array[:3], array[1:5])
	checkList(t, "AddPolys of parts of an array", []int{1, 3, 5, 4}, sum, ok)
	product, ok := impl.MulPolys(11, array[1:3], array[2:4])
	checkList(t, "MulPolys of parts of an array", []int{2, 7, 6}, product, ok)
	values, ok := impl.EvalAll(11, array[1:4], array[:3])
	checkList(t, "EvalAll of parts of an array", []int{1, 6, 6}, values, ok)
	f, ok := impl.Interpolate(11, array[:3], array[1:4])
	checkList(t, "Interpolate of parts of an array", []int{1, 1, 0}, f, ok)
	y, ok := impl.ValueFrom(11, array[:3], array[1:4], 7)
	checkInt(t, "ValueFrom of parts of an array", 8, y, ok)
	if !slices.Equal(array, counting(9)) {
		t.Errorf("the functions changed the array to %v", array)
	}
}

// checkOwnList fails if two results of a call share memory with each other or with the lists, which are copied for it.
func checkOwnList(t *testing.T, name string, lists [][]int, call func(lists [][]int) ([]int, bool)) {
	t.Helper()
	given := make([][]int, len(lists))
	for i, l := range lists {
		given[i] = withSpare(l)
	}
	checkOwnResult(t, name, func() ([]int, bool) { return call(given) }, func() {
		t.Helper()
		for i, l := range lists {
			checkUntouched(t, "a change of the result of "+name, given[i], l)
			overwrite(given[i])
		}
	})
}

// TestPolyResultsShareNoMemory takes lists for which an argument itself would be the right answer, too.
func TestPolyResultsShareNoMemory(t *testing.T) {
	for _, q := range []int{29, 101, topPrime} {
		for _, l := range [][]int{{}, {0}, {1}, {5}, {0, 1}, {3, 1, 2}, counting(maxList - 1), counting(maxList)} {
			checkOwnList(t, "EvalAll", [][]int{{0, 1}, l}, func(a [][]int) ([]int, bool) { return impl.EvalAll(q, a[0], a[1]) })
			for _, other := range [][]int{nil, {0}, {1}} {
				checkOwnList(t, "AddPolys", [][]int{l, other}, func(a [][]int) ([]int, bool) { return impl.AddPolys(q, a[0], a[1]) })
				checkOwnList(t, "AddPolys", [][]int{other, l}, func(a [][]int) ([]int, bool) { return impl.AddPolys(q, a[0], a[1]) })
				checkOwnList(t, "MulPolys", [][]int{l, other}, func(a [][]int) ([]int, bool) { return impl.MulPolys(q, a[0], a[1]) })
				checkOwnList(t, "MulPolys", [][]int{other, l}, func(a [][]int) ([]int, bool) { return impl.MulPolys(q, a[0], a[1]) })
			}
			if len(l) < maxList {
				checkOwnList(t, "PolyFromRoots", [][]int{l}, func(a [][]int) ([]int, bool) { return impl.PolyFromRoots(q, a[0]) })
			}
			if len(l) > 0 {
				checkOwnList(t, "LagrangeCoefs", [][]int{l}, func(a [][]int) ([]int, bool) { return impl.LagrangeCoefs(q, a[0], 1) })
				checkOwnList(t, "Interpolate", [][]int{l, l}, func(a [][]int) ([]int, bool) { return impl.Interpolate(q, a[0], a[1]) })
				checkOwnList(t, "Interpolate", [][]int{l, repeated(7, len(l))}, func(a [][]int) ([]int, bool) { return impl.Interpolate(q, a[0], a[1]) })
			}
		}
	}
}

// TestPolyFunctionsRepeat checks that a call does not depend on earlier calls.
func TestPolyFunctionsRepeat(t *testing.T) {
	calls := func() string {
		value, _ := impl.EvalPoly(7, []int{1, 2, 3}, 2)
		values, _ := impl.EvalAll(7, []int{1, 2, 3}, []int{0, 2})
		degree, _ := impl.DegreeOf(7, []int{1, 2, 0})
		sum, _ := impl.AddPolys(7, []int{1, 6}, []int{1, 2, 3})
		product, _ := impl.MulPolys(7, []int{1, 1}, []int{6, 1})
		roots, _ := impl.PolyFromRoots(7, []int{1, 2})
		coefs, _ := impl.LagrangeCoefs(11, []int{1, 2}, 0)
		from, _ := impl.ValueFrom(11, []int{1, 2}, []int{5, 7}, 0)
		f, _ := impl.Interpolate(11, []int{1, 2}, []int{5, 7})
		return fmt.Sprint(value, values, degree, sum, product, roots, coefs, from, f)
	}
	want := calls()
	impl.EvalPoly(math.MinInt, []int{1}, 0)
	impl.EvalAll(topPrime, repeated(1, maxList), counting(maxList))
	impl.MulPolys(7, repeated(1, maxList), []int{1, 1})
	impl.LagrangeCoefs(11, []int{1, 2, 1}, 0)
	impl.Interpolate(topPrime, counting(maxList), repeated(1, maxList))
	if got := calls(); got != want {
		t.Errorf("the same calls returned %s and then %s", want, got)
	}
}
