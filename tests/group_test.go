package tests

import (
	"fmt"
	"math"
	"math/big"
	"slices"
	"testing"

	"loop.example/g00878/impl"
)

// Promise 2: powers have the order of the group, products of powers are products of single powers, and lists of elements are complete.
// The expected values come from multiplying again and again in small groups, and from big integers in large ones.

const (
	maxPrime = impl.MaxPrime
	maxList  = impl.MaxList
	maxLog   = impl.MaxLog
	maxTiny  = impl.MaxTiny
)

// exampleGroup is the group of the document's examples.
var exampleGroup = impl.Group{P: 23, Q: 11, G: 2}

// topGroup has the greatest order of all groups: P is the greatest prime up to MaxPrime for which (P-1)/2 is a prime.
var topGroup = impl.Group{P: 1999998383, Q: 999999191, G: 4}

// largeGroups have orders from 2 to the greatest one, and moduli near MaxPrime.
var largeGroups = []impl.Group{
	topGroup,
	{P: topPrime, Q: 2, G: topPrime - 1},
	{P: topPrime, Q: 499999993, G: 16},
	{P: 1999999943, Q: 193, G: wantPower(2, 1999999942/193, 1999999943)},
	{P: 1999999943, Q: 5181347, G: wantPower(5, 1999999942/5181347, 1999999943)},
	{P: 1999999871, Q: 11, G: wantPower(3, 1999999870/11, 1999999871)},
	{P: 1999999873, Q: 3, G: wantPower(5, 1999999872/3, 1999999873)},
}

// badGroups are groups that are not valid. Nearly all of them have one fault alone.
var badGroups = []impl.Group{
	{},
	// P is no prime; 341 and 2047 are pseudoprimes.
	{P: 15, Q: 2, G: 4}, {P: 341, Q: 5, G: 4}, {P: 2047, Q: 11, G: 2}, {P: 1, Q: 2, G: 2}, {P: 0, Q: 11, G: 2},
	{P: -23, Q: 11, G: 2}, {P: -23, Q: -11, G: 2}, {P: math.MinInt, Q: 11, G: 2}, {P: math.MaxInt, Q: 7, G: 2},
	// P is a prime above MaxPrime.
	{P: 2000000011, Q: 66666667, G: 1 << 30}, {P: 2000000579, Q: 1000000289, G: 4}, {P: 2000000011, Q: 2, G: 2000000010},
	// Q is no prime; in the last three G has the order Q.
	{P: 23, Q: 1, G: 1}, {P: 23, Q: 1, G: 2}, {P: 23, Q: 0, G: 2}, {P: 23, Q: -1, G: 2}, {P: 23, Q: -11, G: 2},
	{P: 23, Q: math.MinInt, G: 2}, {P: 23, Q: math.MaxInt, G: 2}, {P: 23, Q: 22, G: 5}, {P: 13, Q: 4, G: 5}, {P: 73, Q: 9, G: 2},
	// Q does not divide P - 1.
	{P: 23, Q: 7, G: 2}, {P: 23, Q: 23, G: 2}, {P: 2, Q: 2, G: 1}, {P: 2, Q: 3, G: 1},
	// G is out of range.
	{P: 23, Q: 11, G: 0}, {P: 23, Q: 11, G: 1}, {P: 23, Q: 11, G: 23}, {P: 23, Q: 11, G: 24}, {P: 23, Q: 11, G: 25},
	{P: 23, Q: 11, G: -1}, {P: 23, Q: 11, G: -21}, {P: 23, Q: 2, G: -1}, {P: 3, Q: 2, G: 1},
	{P: 23, Q: 11, G: math.MinInt}, {P: 23, Q: 11, G: math.MaxInt},
	// G is of another order.
	{P: 23, Q: 11, G: 5}, {P: 23, Q: 11, G: 22}, {P: 23, Q: 2, G: 2}, {P: topGroup.P, Q: topGroup.Q, G: topGroup.P - 1},
}

// smallGroups returns, for each modulus below 48 and each order, the groups with the least and with the greatest generator.
func smallGroups() []impl.Group {
	var l []impl.Group
	for _, p := range primesBelow(48)[1:] {
		for _, q := range primeDivisors(p - 1) {
			of := func(g int) impl.Group { return impl.Group{P: p, Q: q, G: g} }
			least, greatest := 2, p-1
			for orderOf(least, p) != q {
				least++
			}
			for orderOf(greatest, p) != q {
				greatest--
			}
			l = append(l, of(least))
			if least != greatest {
				l = append(l, of(greatest))
			}
		}
	}
	return l
}

// allGroups are the small groups and the large ones.
func allGroups() []impl.Group {
	return append(smallGroups(), largeGroups...)
}

// powersIn returns the first n powers of x, from 1 on, by multiplying.
func powersIn(gr impl.Group, x int, n int) []int {
	l := []int{1}
	for len(l) < n {
		l = append(l, l[len(l)-1]*x%gr.P)
	}
	return l[:n]
}

// elementsIn returns the elements of a small group in increasing order.
func elementsIn(gr impl.Group) []int {
	l := powersIn(gr, gr.G, gr.Q)
	slices.Sort(l)
	return l
}

// someElements returns elements of a group: 1, the generator, its inverse and others.
func someElements(gr impl.Group) []int {
	l := []int{1, gr.G, wantPower(gr.G, gr.Q-1, gr.P)}
	for _, e := range someResidues(gr.Q) {
		l = append(l, wantPower(gr.G, e, gr.P))
	}
	return l
}

// notElements returns integers that are not elements: 0, integers outside 1..P-1 that have the same residues as elements, and residues of another order, if there are any.
func notElements(gr impl.Group) []int {
	l := []int{math.MinInt, -gr.P, 1 - gr.P, gr.G - gr.P, -1, 0, gr.P, gr.P + 1, gr.P + gr.G, 1 << 32, math.MaxInt}
	for x := 2; x < min(gr.P, 60); x++ {
		if wantPower(x, gr.Q, gr.P) != 1 {
			return append(l, x)
		}
	}
	return l
}

// notExponents returns integers that are not exponents.
func notExponents(gr impl.Group) []int {
	return []int{math.MinInt, -gr.Q, -1, gr.Q, gr.Q + 1, gr.P - 1, 1 << 32, math.MaxInt}
}

// mustMake returns MakeGroup of an order.
func mustMake(t *testing.T, q int) impl.Group {
	t.Helper()
	gr, ok := impl.MakeGroup(q)
	if !ok {
		t.Fatalf("MakeGroup(%d) fails", q)
	}
	return gr
}

func TestGroupConstants(t *testing.T) {
	if maxPrime != 2000000000 || maxList != 24 || maxLog != 1000000 || maxTiny != 2000 {
		t.Error("the limits of chapter 2 are", maxPrime, maxList, maxLog, maxTiny)
	}
}

func TestIsValidGroupExamples(t *testing.T) {
	for _, gr := range []impl.Group{exampleGroup, {P: 3, Q: 2, G: 2}, {P: 7, Q: 3, G: 2}, {P: 7, Q: 3, G: 4}, {P: 7, Q: 2, G: 6}, {P: 23, Q: 11, G: 18}, {P: 23, Q: 2, G: 22}} {
		if !impl.IsValidGroup(gr) {
			t.Errorf("%v is not valid", gr)
		}
	}
}

// TestIsValidGroupOfSmallNumbers takes all groups of integers in a range.
func TestIsValidGroupOfSmallNumbers(t *testing.T) {
	const top = 48
	primes := primesBelow(top)
	for p := -5; p < top; p++ {
		for q := -5; q < top; q++ {
			rightOrder := q > 0 && slices.Contains(primes, p) && slices.Contains(primes, q) && (p-1)%q == 0
			for g := -5; g < top+5; g++ {
				want := rightOrder && 2 <= g && g < p && orderOf(g, p) == q
				if got := impl.IsValidGroup(impl.Group{P: p, Q: q, G: g}); got != want {
					t.Errorf("IsValidGroup(%d, %d, %d) = %v", p, q, g, got)
				}
			}
		}
	}
}

func TestIsValidGroupOfLargeNumbers(t *testing.T) {
	for _, gr := range largeGroups {
		if !impl.IsValidGroup(gr) {
			t.Errorf("%v is not valid", gr)
		}
		for _, g := range []int{wantPower(gr.G, gr.Q-1, gr.P), wantPower(gr.G, gr.Q/2+1, gr.P)} {
			want := g != 1
			if got := impl.IsValidGroup(impl.Group{P: gr.P, Q: gr.Q, G: g}); got != want {
				t.Errorf("IsValidGroup(%d, %d, %d) = %v", gr.P, gr.Q, g, got)
			}
		}
	}
}

func TestIsValidGroupInvalid(t *testing.T) {
	for _, gr := range badGroups {
		if impl.IsValidGroup(gr) {
			t.Errorf("%v is valid", gr)
		}
	}
	for _, gr := range allGroups() {
		for _, g := range notElements(gr) {
			if impl.IsValidGroup(impl.Group{P: gr.P, Q: gr.Q, G: g}) {
				t.Errorf("%v is valid with G of %d", gr, g)
			}
		}
	}
}

// wantGroup returns the group that MakeGroup describes, by big integers.
func wantGroup(q int) impl.Group {
	p := q + 1
	for !big.NewInt(int64(p)).ProbablyPrime(0) {
		p += q
	}
	for h := 2; ; h++ {
		if g := wantPower(h, (p-1)/q, p); g != 1 {
			return impl.Group{P: p, Q: q, G: g}
		}
	}
}

func TestMakeGroupExamples(t *testing.T) {
	for _, want := range []impl.Group{{P: 23, Q: 11, G: 4}, {P: 3, Q: 2, G: 2}, {P: 7, Q: 3, G: 4}, {P: 11, Q: 5, G: 4}, {P: 29, Q: 7, G: 16}, {P: 119826121, Q: 998551, G: 9764503}} {
		if got, ok := impl.MakeGroup(want.Q); !ok || got != want {
			t.Errorf("MakeGroup(%d) = %v, %v; want %v, true", want.Q, got, ok, want)
		}
	}
}

func checkMade(t *testing.T, q int) {
	t.Helper()
	got, ok := impl.MakeGroup(q)
	if want := wantGroup(q); !ok || got != want {
		t.Errorf("MakeGroup(%d) = %v, %v; want %v, true", q, got, ok, want)
	}
	if !impl.IsValidGroup(got) {
		t.Errorf("MakeGroup(%d) = %v is not valid", q, got)
	}
}

// TestMakeGroupOfAllOrders shows also that no order needs a P above MaxPrime: the greatest P is 119826121, for the order 998551. Nor is there an order for which the power of h = 2 is 1.
func TestMakeGroupOfAllOrders(t *testing.T) {
	const top = 1000000
	crossed := make([]bool, top+1)
	for q := 2; q <= top; q++ {
		if crossed[q] {
			got, ok := impl.MakeGroup(q)
			checkNoGroup(t, q, got, ok)
			continue
		}
		for n := q * q; n <= top; n += q {
			crossed[n] = true
		}
		checkMade(t, q)
	}
}

// checkNoGroup fails unless MakeGroup returned the zero group and false.
func checkNoGroup(t *testing.T, q int, got impl.Group, ok bool) {
	t.Helper()
	if ok || got != (impl.Group{}) {
		t.Errorf("MakeGroup(%d) = %v, %v; want no group, false", q, got, ok)
	}
}

func TestMakeGroupInvalid(t *testing.T) {
	for _, q := range []int{math.MinInt, -1000003, -11, -3, -2, -1, 0, 1, 4, 6, 9, 121, 341, 561, 2047, 999999, 1000000, 1000001, 1000003, 1000033, 499999993, topPrime, maxPrime, 2147483647, 1 << 32, math.MaxInt} {
		got, ok := impl.MakeGroup(q)
		checkNoGroup(t, q, got, ok)
	}
}

func checkElement(t *testing.T, gr impl.Group, x int, want bool) {
	t.Helper()
	if got, ok := impl.IsElement(gr, x); got != want || !ok {
		t.Errorf("IsElement(%v, %d) = %v, %v; want %v, true", gr, x, got, ok, want)
	}
}

func TestIsElementExamples(t *testing.T) {
	checkElement(t, exampleGroup, 3, true)
	checkElement(t, exampleGroup, 5, false)
	checkElement(t, exampleGroup, 1, true)
	checkElement(t, exampleGroup, 22, false)
}

func TestIsElementOfSmallGroups(t *testing.T) {
	for _, gr := range smallGroups() {
		elements := elementsIn(gr)
		for x := -2 * gr.P; x <= 3*gr.P; x++ {
			checkElement(t, gr, x, slices.Contains(elements, x))
		}
	}
}

func TestIsElementOfLargeGroups(t *testing.T) {
	for _, gr := range largeGroups {
		for _, x := range someElements(gr) {
			checkElement(t, gr, x, true)
		}
		for _, x := range notElements(gr) {
			checkElement(t, gr, x, false)
		}
		for _, x := range someResidues(gr.P) {
			checkElement(t, gr, x, x > 0 && wantPower(x, gr.Q, gr.P) == 1)
		}
	}
}

func TestIsElementInvalid(t *testing.T) {
	for _, gr := range badGroups {
		for _, x := range []int{math.MinInt, -1, 0, 1, 2, 4, 16, math.MaxInt} {
			if got, ok := impl.IsElement(gr, x); got || ok {
				t.Errorf("IsElement(%v, %d) = %v, %v; want false, false", gr, x, got, ok)
			}
		}
	}
}

func TestExpOfExample(t *testing.T) {
	x, ok := impl.ExpOf(exampleGroup, 3, 4)
	checkInt(t, "ExpOf 3, 4", 12, x, ok)
}

func TestExpOfSmallGroups(t *testing.T) {
	for _, gr := range smallGroups() {
		for _, x := range elementsIn(gr) {
			for e, want := range powersIn(gr, x, gr.Q) {
				got, ok := impl.ExpOf(gr, x, e)
				checkInt(t, fmt.Sprintf("ExpOf(%v, %d, %d)", gr, x, e), want, got, ok)
			}
		}
	}
}

func TestExpOfLargeGroups(t *testing.T) {
	for _, gr := range largeGroups {
		for i, x := range someElements(gr) {
			exps := someResidues(gr.Q)
			for _, e := range []int{0, 1, gr.Q - 1, exps[i%len(exps)]} {
				got, ok := impl.ExpOf(gr, x, e)
				checkInt(t, fmt.Sprintf("ExpOf(%v, %d, %d)", gr, x, e), wantPower(x, e, gr.P), got, ok)
			}
		}
	}
}

// TestExpOfHasOrderOfGroup multiplies the greatest power of an element by the element, which gives the power with Q.
func TestExpOfHasOrderOfGroup(t *testing.T) {
	for _, gr := range allGroups() {
		for _, x := range someElements(gr) {
			last, _ := impl.ExpOf(gr, x, gr.Q-1)
			one, ok := impl.MulOf(gr, []int{last, x})
			checkInt(t, fmt.Sprintf("the power of %d with the order of %v", x, gr), 1, one, ok)
		}
	}
}

func TestExpOfInvalid(t *testing.T) {
	for _, gr := range badGroups {
		for _, e := range []int{0, 1} {
			got, ok := impl.ExpOf(gr, 1, e)
			checkNoInt(t, fmt.Sprintf("ExpOf(%v, 1, %d)", gr, e), got, ok)
		}
	}
	for _, gr := range allGroups() {
		for _, x := range notElements(gr) {
			for _, e := range []int{0, 1, gr.Q - 1} {
				got, ok := impl.ExpOf(gr, x, e)
				checkNoInt(t, fmt.Sprintf("ExpOf(%v, %d, %d)", gr, x, e), got, ok)
			}
		}
		for _, e := range notExponents(gr) {
			for _, x := range []int{1, gr.G} {
				got, ok := impl.ExpOf(gr, x, e)
				checkNoInt(t, fmt.Sprintf("ExpOf(%v, %d, %d)", gr, x, e), got, ok)
			}
		}
	}
}

// elementLists returns lists of elements of several lengths, up to MaxList.
func elementLists(gr impl.Group) [][]int {
	some := someElements(gr)
	return [][]int{nil, {}, {1}, {gr.G}, some[:2], some[2:5], some[1:maxList], some[10 : 10+maxList], repeated(1, maxList), repeated(gr.G, maxList)}
}

// badElementLists returns lists that are not lists of elements: one bad integer at the start, in the middle or at the end, or too many elements.
func badElementLists(gr impl.Group) [][]int {
	bad := [][]int{repeated(1, maxList+1), repeated(gr.G, maxList+1), repeated(0, maxList+1), repeated(1, 1000)}
	for _, x := range notElements(gr) {
		bad = append(bad, []int{x}, []int{x, gr.G, 1}, []int{1, x, gr.G}, []int{gr.G, 1, x}, append(repeated(1, maxList-1), x))
	}
	return bad
}

// wantProduct returns the product of powers by big integers.
func wantProduct(gr impl.Group, l []int, exps []int) int {
	p := big.NewInt(int64(gr.P))
	product := big.NewInt(1)
	for i, x := range l {
		power := new(big.Int).Exp(big.NewInt(int64(x)), big.NewInt(int64(exps[i])), p)
		product.Mod(product.Mul(product, power), p)
	}
	return int(product.Int64())
}

func TestMulOfExamples(t *testing.T) {
	x, ok := impl.MulOf(exampleGroup, []int{3, 8})
	checkInt(t, "MulOf 3, 8", 1, x, ok)
	x, ok = impl.MulOf(exampleGroup, []int{18, 18, 16})
	checkInt(t, "MulOf 18, 18, 16", 9, x, ok)
}

func TestMulOfSmallGroups(t *testing.T) {
	for _, gr := range smallGroups() {
		elements := elementsIn(gr)
		for _, x := range elements {
			for _, y := range elements {
				got, ok := impl.MulOf(gr, []int{x, y})
				checkInt(t, fmt.Sprintf("MulOf(%v, [%d %d])", gr, x, y), x*y%gr.P, got, ok)
			}
		}
	}
}

func TestMulOfLists(t *testing.T) {
	for _, gr := range allGroups() {
		for _, l := range elementLists(gr) {
			got, ok := impl.MulOf(gr, l)
			checkInt(t, fmt.Sprintf("MulOf(%v, %v)", gr, l), wantProduct(gr, l, repeated(1, len(l))), got, ok)
		}
	}
}

func TestMulOfInvalid(t *testing.T) {
	for _, gr := range badGroups {
		for _, l := range [][]int{nil, {}, {1}, {2, 4}} {
			got, ok := impl.MulOf(gr, l)
			checkNoInt(t, fmt.Sprintf("MulOf(%v, %v)", gr, l), got, ok)
		}
	}
	for _, gr := range allGroups() {
		for _, l := range badElementLists(gr) {
			got, ok := impl.MulOf(gr, l)
			checkNoInt(t, fmt.Sprintf("MulOf(%v, %v)", gr, l), got, ok)
		}
	}
}

func TestInverseOfExample(t *testing.T) {
	x, ok := impl.InverseOf(exampleGroup, 3)
	checkInt(t, "InverseOf 3", 8, x, ok)
}

func TestInverseOfGroups(t *testing.T) {
	for _, gr := range allGroups() {
		for _, x := range someElements(gr) {
			want, _ := wantInverse(x, gr.P)
			got, ok := impl.InverseOf(gr, x)
			checkInt(t, fmt.Sprintf("InverseOf(%v, %d)", gr, x), want, got, ok)
			one, ok := impl.MulOf(gr, []int{x, got})
			checkInt(t, fmt.Sprintf("the product with InverseOf(%v, %d)", gr, x), 1, one, ok)
		}
	}
}

func TestInverseOfInvalid(t *testing.T) {
	for _, gr := range badGroups {
		for _, x := range []int{0, 1, 2, 4} {
			got, ok := impl.InverseOf(gr, x)
			checkNoInt(t, fmt.Sprintf("InverseOf(%v, %d)", gr, x), got, ok)
		}
	}
	for _, gr := range allGroups() {
		for _, x := range notElements(gr) {
			got, ok := impl.InverseOf(gr, x)
			checkNoInt(t, fmt.Sprintf("InverseOf(%v, %d)", gr, x), got, ok)
		}
	}
}

func TestProductOfPowersExample(t *testing.T) {
	x, ok := impl.ProductOfPowers(exampleGroup, []int{2, 3}, []int{2, 1})
	checkInt(t, "ProductOfPowers 2, 3 with 2, 1", 12, x, ok)
}

// exponentLists returns lists of n exponents.
func exponentLists(gr impl.Group, n int) [][]int {
	some := someResidues(gr.Q)
	return [][]int{repeated(0, n), repeated(1, n), repeated(gr.Q-1, n), some[:n], some[20 : 20+n]}
}

func TestProductOfPowersOfLists(t *testing.T) {
	for _, gr := range allGroups() {
		for _, l := range elementLists(gr) {
			for _, exps := range exponentLists(gr, len(l)) {
				name := fmt.Sprintf("ProductOfPowers(%v, %v, %v)", gr, l, exps)
				got, ok := impl.ProductOfPowers(gr, l, exps)
				checkInt(t, name, wantProduct(gr, l, exps), got, ok)
				powers := make([]int, len(l))
				for i, x := range l {
					powers[i], _ = impl.ExpOf(gr, x, exps[i])
				}
				product, ok := impl.MulOf(gr, powers)
				checkInt(t, "the product of the powers of "+name, got, product, ok)
			}
		}
	}
}

func TestProductOfPowersInvalid(t *testing.T) {
	for _, gr := range badGroups {
		for _, l := range [][]int{nil, {1}, {1, 1}} {
			got, ok := impl.ProductOfPowers(gr, l, repeated(0, len(l)))
			checkNoInt(t, fmt.Sprintf("ProductOfPowers(%v, %v, zeros)", gr, l), got, ok)
		}
	}
	for _, gr := range allGroups() {
		for _, l := range badElementLists(gr) {
			for _, e := range []int{0, 1, gr.Q - 1} {
				got, ok := impl.ProductOfPowers(gr, l, repeated(e, len(l)))
				checkNoInt(t, fmt.Sprintf("ProductOfPowers(%v, %v, all %d)", gr, l, e), got, ok)
			}
		}
		for _, e := range notExponents(gr) {
			for _, exps := range [][]int{{e, 1, 1}, {1, e, 1}, {1, 1, e}} {
				got, ok := impl.ProductOfPowers(gr, []int{gr.G, 1, gr.G}, exps)
				checkNoInt(t, fmt.Sprintf("ProductOfPowers(%v, three elements, %v)", gr, exps), got, ok)
			}
		}
	}
}

func TestProductOfPowersOfDifferentLengths(t *testing.T) {
	lengths := []int{0, 1, 2, 3, maxList - 1, maxList, maxList + 1, 100}
	for _, gr := range []impl.Group{exampleGroup, topGroup} {
		for _, n := range lengths {
			for _, m := range lengths {
				if n == m && n <= maxList {
					continue
				}
				got, ok := impl.ProductOfPowers(gr, repeated(gr.G, n), repeated(1, m))
				checkNoInt(t, fmt.Sprintf("ProductOfPowers(%v, %d elements, %d exponents)", gr, n, m), got, ok)
			}
		}
	}
}

func checkLog(t *testing.T, gr impl.Group, base int, x int, most int, want int) {
	t.Helper()
	got, ok := impl.LogOf(gr, base, x, most)
	checkInt(t, fmt.Sprintf("LogOf(%v, %d, %d, %d)", gr, base, x, most), want, got, ok)
}

func checkNoLog(t *testing.T, gr impl.Group, base int, x int, most int) {
	t.Helper()
	got, ok := impl.LogOf(gr, base, x, most)
	checkNoInt(t, fmt.Sprintf("LogOf(%v, %d, %d, %d)", gr, base, x, most), got, ok)
}

func TestLogOfExample(t *testing.T) {
	checkLog(t, exampleGroup, 2, 3, 8, 8)
	checkLog(t, exampleGroup, 2, 3, 10, 8)
	checkLog(t, exampleGroup, 2, 3, maxLog, 8)
	checkNoLog(t, exampleGroup, 2, 3, 7)
}

func TestLogOfSmallGroups(t *testing.T) {
	for _, gr := range smallGroups() {
		elements := elementsIn(gr)
		for _, base := range elements {
			powers := powersIn(gr, base, gr.Q)
			for _, x := range elements {
				want := slices.Index(powers, x)
				if want < 0 {
					checkNoLog(t, gr, base, x, gr.Q)
					checkNoLog(t, gr, base, x, maxLog)
					continue
				}
				for _, most := range []int{want, want + 1, gr.Q - 1 + want, maxLog} {
					checkLog(t, gr, base, x, most, want)
				}
				checkNoLog(t, gr, base, x, want-1)
			}
		}
	}
}

func TestLogOfLargeGroups(t *testing.T) {
	for _, gr := range largeGroups {
		for _, e := range []int{0, 1, 2, 3, 192, 999, 123456, maxLog - 1, maxLog} {
			if e >= gr.Q {
				continue
			}
			x := wantPower(gr.G, e, gr.P)
			checkLog(t, gr, gr.G, x, e, e)
			checkLog(t, gr, gr.G, x, maxLog, e)
			checkNoLog(t, gr, gr.G, x, e-1)
		}
	}
}

// TestLogOfOne takes the element 1, which has the logarithm 0 to every base and is no base of another element.
func TestLogOfOne(t *testing.T) {
	for _, gr := range allGroups() {
		for _, most := range []int{0, 1, maxLog} {
			checkLog(t, gr, gr.G, 1, most, 0)
			checkLog(t, gr, 1, 1, most, 0)
			checkNoLog(t, gr, 1, gr.G, most)
		}
	}
}

// TestLogOfTooGreat takes logarithms above MaxLog.
func TestLogOfTooGreat(t *testing.T) {
	for _, gr := range []impl.Group{topGroup, largeGroups[2], largeGroups[4]} {
		for _, e := range []int{maxLog + 1, gr.Q - 1} {
			x := wantPower(gr.G, e, gr.P)
			checkNoLog(t, gr, gr.G, x, maxLog)
			checkNoLog(t, gr, gr.G, x, maxLog+1)
		}
	}
}

func TestLogOfInvalid(t *testing.T) {
	for _, gr := range badGroups {
		for _, most := range []int{0, 1, maxLog} {
			checkNoLog(t, gr, 1, 1, most)
			checkNoLog(t, gr, 2, 2, most)
		}
	}
	for _, gr := range allGroups() {
		for _, x := range notElements(gr) {
			checkNoLog(t, gr, x, 1, 10)
			checkNoLog(t, gr, x, x, 10)
			checkNoLog(t, gr, gr.G, x, 10)
		}
		for _, most := range []int{math.MinInt, -maxLog, -1, maxLog + 1, 1 << 32, math.MaxInt} {
			checkNoLog(t, gr, gr.G, gr.G, most)
			checkNoLog(t, gr, gr.G, 1, most)
		}
	}
}

func checkElements(t *testing.T, gr impl.Group, want []int) {
	t.Helper()
	if got, ok := impl.ElementsOf(gr); !ok || !slices.Equal(got, want) {
		t.Errorf("ElementsOf(%v) = %v, %v; want %v, true", gr, got, ok, want)
	}
}

func TestElementsOfExample(t *testing.T) {
	checkElements(t, exampleGroup, []int{1, 2, 3, 4, 6, 8, 9, 12, 13, 16, 18})
}

// TestElementsOfSmallGroups tries all residues.
func TestElementsOfSmallGroups(t *testing.T) {
	for _, gr := range smallGroups() {
		var want []int
		for x := 1; x < gr.P; x++ {
			if powersIn(gr, x, gr.Q+1)[gr.Q] == 1 {
				want = append(want, x)
			}
		}
		checkElements(t, gr, want)
	}
}

// TestElementsOfLargeGroups counts the elements, of which there are exactly Q.
func TestElementsOfLargeGroups(t *testing.T) {
	groups := []impl.Group{mustMake(t, 1993), mustMake(t, 1997), mustMake(t, 1999)}
	for _, gr := range append(groups, largeGroups...) {
		if gr.Q > maxTiny {
			continue
		}
		l, ok := impl.ElementsOf(gr)
		if !ok || len(l) != gr.Q {
			t.Errorf("ElementsOf(%v) has %d elements, %v", gr, len(l), ok)
		}
		last := 0
		for _, x := range l {
			if x <= last || x >= gr.P || wantPower(x, gr.Q, gr.P) != 1 {
				t.Errorf("ElementsOf(%v) has %d after %d", gr, x, last)
			}
			checkElement(t, gr, x, true)
			last = x
		}
	}
}

func TestElementsOfInvalid(t *testing.T) {
	groups := append([]impl.Group{mustMake(t, 2003), mustMake(t, 2011), mustMake(t, 999983)}, badGroups...)
	for _, gr := range append(groups, largeGroups...) {
		if gr.Q <= maxTiny && impl.IsValidGroup(gr) {
			continue
		}
		l, ok := impl.ElementsOf(gr)
		checkNoList(t, fmt.Sprintf("ElementsOf(%v)", gr), l, ok)
	}
}

func TestElementFromExample(t *testing.T) {
	x, ok := impl.ElementFrom(exampleGroup, 5)
	checkInt(t, "ElementFrom 5", 2, x, ok)
}

func checkElementFrom(t *testing.T, gr impl.Group, r int) {
	t.Helper()
	x, ok := impl.ElementFrom(gr, r)
	checkInt(t, fmt.Sprintf("ElementFrom(%v, %d)", gr, r), wantPower(r, (gr.P-1)/gr.Q, gr.P), x, ok)
	checkElement(t, gr, x, true)
}

// TestElementFromSmallGroups takes all residues other than 0, from which all elements come.
func TestElementFromSmallGroups(t *testing.T) {
	for _, gr := range smallGroups() {
		var elements []int
		for r := 1; r < gr.P; r++ {
			checkElementFrom(t, gr, r)
			x, _ := impl.ElementFrom(gr, r)
			elements = append(elements, x)
		}
		slices.Sort(elements)
		if got := slices.Compact(elements); !slices.Equal(got, elementsIn(gr)) {
			t.Errorf("the residues of %v yield %v", gr, got)
		}
	}
}

func TestElementFromLargeGroups(t *testing.T) {
	for _, gr := range largeGroups {
		for _, r := range append(someResidues(gr.P), 2, gr.G, gr.P-2) {
			if r > 0 {
				checkElementFrom(t, gr, r)
			}
		}
	}
}

func TestElementFromEdges(t *testing.T) {
	for _, gr := range allGroups() {
		x, ok := impl.ElementFrom(gr, 1)
		checkInt(t, fmt.Sprintf("ElementFrom(%v, 1)", gr), 1, x, ok)
		want := 1
		if (gr.P-1)/gr.Q%2 == 1 {
			want = gr.P - 1
		}
		x, ok = impl.ElementFrom(gr, gr.P-1)
		checkInt(t, fmt.Sprintf("ElementFrom(%v, P-1)", gr), want, x, ok)
	}
}

func TestElementFromInvalid(t *testing.T) {
	for _, gr := range badGroups {
		for _, r := range []int{-1, 0, 1, 2, 4} {
			x, ok := impl.ElementFrom(gr, r)
			checkNoInt(t, fmt.Sprintf("ElementFrom(%v, %d)", gr, r), x, ok)
		}
	}
	for _, gr := range allGroups() {
		for _, r := range []int{math.MinInt, -gr.P, 1 - gr.P, -2, -1, 0, gr.P, gr.P + 1, 2*gr.P - 1, 1 << 32, math.MaxInt} {
			x, ok := impl.ElementFrom(gr, r)
			checkNoInt(t, fmt.Sprintf("ElementFrom(%v, %d)", gr, r), x, ok)
		}
	}
}
