package tests

import (
	"fmt"
	"math"
	"slices"
	"testing"

	"loop.example/g00878/impl"
)

// Promise 33 for chapter 2.

// anyGroups are valid groups, groups with one fault, and groups of extreme integers.
func anyGroups() []impl.Group {
	l := append(allGroups(), badGroups...)
	for _, p := range extremes {
		for _, q := range extremes {
			for _, g := range extremes {
				l = append(l, impl.Group{P: p, Q: q, G: g})
			}
		}
	}
	return l
}

// checkTotal calls a function with an integer result, which must not panic and must be 0 with false.
func checkTotal(t *testing.T, name string, f func() (int, bool)) {
	t.Helper()
	mustNotPanic(t, name, func() {
		if x, ok := f(); !ok && x != 0 {
			t.Errorf("%s = %d, false", name, x)
		}
	})
}

func TestGroupFunctionsOfNoIntegerAreTotal(t *testing.T) {
	for _, gr := range anyGroups() {
		mustNotPanic(t, fmt.Sprintf("ElementsOf(%v)", gr), func() {
			valid := impl.IsValidGroup(gr)
			l, ok := impl.ElementsOf(gr)
			if ok != (valid && gr.Q <= maxTiny) || !ok && len(l) != 0 {
				t.Errorf("ElementsOf(%v) = %v, %v", gr, l, ok)
			}
		})
	}
}

func TestGroupFunctionsOfOneIntegerAreTotal(t *testing.T) {
	for _, x := range extremes {
		mustNotPanic(t, fmt.Sprintf("MakeGroup(%d)", x), func() {
			if gr, ok := impl.MakeGroup(x); ok != impl.IsValidGroup(gr) || !ok && gr != (impl.Group{}) {
				t.Errorf("MakeGroup(%d) = %v, %v", x, gr, ok)
			}
		})
	}
	for _, gr := range anyGroups() {
		valid := impl.IsValidGroup(gr)
		for _, x := range extremes {
			mustNotPanic(t, fmt.Sprintf("IsElement(%v, %d)", gr, x), func() {
				if is, ok := impl.IsElement(gr, x); ok != valid || is && !ok {
					t.Errorf("IsElement(%v, %d) = %v, %v", gr, x, is, ok)
				}
			})
			checkTotal(t, fmt.Sprintf("InverseOf(%v, %d)", gr, x), func() (int, bool) { return impl.InverseOf(gr, x) })
			checkTotal(t, fmt.Sprintf("ElementFrom(%v, %d)", gr, x), func() (int, bool) { return impl.ElementFrom(gr, x) })
		}
	}
}

func TestGroupFunctionsOfMoreIntegersAreTotal(t *testing.T) {
	for _, gr := range append(allGroups(), badGroups...) {
		for _, x := range extremes {
			for _, e := range extremes {
				checkTotal(t, fmt.Sprintf("ExpOf(%v, %d, %d)", gr, x, e), func() (int, bool) { return impl.ExpOf(gr, x, e) })
				for _, most := range []int{math.MinInt, -1, 0, 1, maxLog, maxLog + 1, math.MaxInt} {
					checkTotal(t, fmt.Sprintf("LogOf(%v, %d, %d, %d)", gr, x, e, most), func() (int, bool) { return impl.LogOf(gr, x, e, most) })
				}
			}
		}
	}
}

// checkGroupLists calls the functions of lists with copies of two lists and fails if one of them panics, has a result with false, or touches a list.
func checkGroupLists(t *testing.T, gr impl.Group, a []int, b []int) {
	t.Helper()
	first, second := withSpare(a), withSpare(b)
	checkTotal(t, "MulOf", func() (int, bool) { return impl.MulOf(gr, first) })
	checkUntouched(t, "MulOf", first, a)
	checkTotal(t, "ProductOfPowers", func() (int, bool) { return impl.ProductOfPowers(gr, first, second) })
	checkUntouched(t, "ProductOfPowers", first, a)
	checkUntouched(t, "ProductOfPowers", second, b)
}

func TestGroupFunctionsOfListsAreTotal(t *testing.T) {
	lists := extremeLists()
	for _, gr := range append(allGroups(), badGroups...) {
		for i, a := range lists {
			checkGroupLists(t, gr, a, a)
			checkGroupLists(t, gr, a, lists[len(lists)-1-i])
		}
	}
}

func TestGroupFunctionsKeepValidLists(t *testing.T) {
	for _, gr := range allGroups() {
		for _, l := range elementLists(gr) {
			for _, exps := range exponentLists(gr, len(l)) {
				checkGroupLists(t, gr, l, exps)
			}
		}
	}
}

func TestElementsOfKeepsNoMemory(t *testing.T) {
	groups := append(smallGroups(), mustMake(t, 1999))
	for _, gr := range groups {
		first, _ := impl.ElementsOf(gr)
		want := slices.Clone(first)
		second, _ := impl.ElementsOf(gr)
		overwrite(first)
		third, _ := impl.ElementsOf(gr)
		if !slices.Equal(second, want) || !slices.Equal(third, want) {
			t.Errorf("results of ElementsOf(%v) share memory", gr)
		}
	}
}

// TestGroupFunctionsRepeat checks that a call does not depend on earlier calls.
func TestGroupFunctionsRepeat(t *testing.T) {
	gr := exampleGroup
	calls := func() string {
		valid := impl.IsValidGroup(gr)
		made, _ := impl.MakeGroup(11)
		is, _ := impl.IsElement(gr, 3)
		power, _ := impl.ExpOf(gr, 3, 4)
		product, _ := impl.MulOf(gr, []int{3, 4})
		inverse, _ := impl.InverseOf(gr, 3)
		powers, _ := impl.ProductOfPowers(gr, []int{2, 3}, []int{2, 1})
		log, _ := impl.LogOf(gr, 2, 3, 10)
		elements, _ := impl.ElementsOf(gr)
		from, _ := impl.ElementFrom(gr, 5)
		return fmt.Sprint(valid, made, is, power, product, inverse, powers, log, elements, from)
	}
	want := calls()
	impl.IsValidGroup(impl.Group{P: 47, Q: 23, G: 2})
	impl.MakeGroup(3)
	impl.ExpOf(topGroup, 4, topGroup.Q)
	impl.ProductOfPowers(gr, []int{2, 5}, []int{2, 1})
	impl.ElementsOf(impl.Group{P: 7, Q: 3, G: 4})
	if got := calls(); got != want {
		t.Errorf("the same calls returned %s and then %s", want, got)
	}
}
