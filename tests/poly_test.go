package tests

import (
	"fmt"
	"slices"
	"testing"

	"loop.example/g00878/impl"
)

// Promise 5: values of sums and products are sums and products of values, and interpolation inverts evaluation.
// The expected values are sums of products and of powers by big integers.

// smallPrimes are moduli for which all polynomials with few coefficients and all lists of points can be tried.
var smallPrimes = []int{2, 3, 5}

// fieldPrimes are moduli of all sizes up to the greatest one: some with fewer residues than MaxList, and 23 and 29 next to it.
var fieldPrimes = []int{2, 3, 5, 7, 11, 23, 29, 101, 65537, 999999937, 1<<30 + 3, 1999999943, topPrime}

// notPrimes are integers that are no moduli of polynomials: numbers with divisors, among them pseudoprimes and squares of primes, a prime above MaxModulus, and those that are no moduli at all.
var notPrimes = append([]int{4, 6, 8, 9, 15, 25, 121, 341, 561, 2047, 29341, 1 << 30, 44711 * 44711, 1999999998, maxModulus - 1, maxModulus, 2000000011, 1<<31 - 1}, badModuli...)

// firstOf returns the first n residues of someResidues.
func firstOf(q int, n int) []int {
	return someResidues(q)[:n]
}

// somePolys returns polynomials modulo q of several lengths, up to MaxList, some with leading zeros and some of 0 only.
func somePolys(q int) [][]int {
	r := someResidues(q)
	top := q - 1
	polys := [][]int{nil, {}, {0}, {1}, {top}, {0, 0, 0}, {0, 1}, {1, 0}, {top, top}, {1, top, 0, 0}, {0, 0, top}, r[4:6], r[5:9], r[9:20]}
	return append(polys, r[10:10+maxList], r[30:30+maxList-1], repeated(top, maxList), repeated(0, maxList), append(repeated(0, maxList-1), top), append([]int{top}, repeated(0, maxList-1)...))
}

// badFieldLists returns lists that no function takes as a polynomial, as points or as values: one bad element at the start, in the middle or at the end, or too many elements.
func badFieldLists(q int) [][]int {
	bad := [][]int{repeated(0, maxList+1), repeated(1, maxList+1), repeated(0, maxTerms), repeated(0, maxTerms+1), counting(maxList + 1), repeated(q, maxList+1)}
	for _, x := range notResidues(q) {
		bad = append(bad, []int{x}, []int{x, 1}, []int{x, 1, 0}, []int{1, x, 0}, []int{1, x}, []int{1, 0, x}, append(repeated(0, maxList-1), x), append([]int{x}, repeated(1, maxList-1)...))
	}
	return bad
}

// orderedPoints returns n different residues modulo q in an order that is neither increasing nor decreasing for a large q, or as many as there are.
func orderedPoints(q int, n int) []int {
	var l []int
	for _, x := range append(someResidues(q), counting(min(q, maxList))...) {
		if len(l) < n && !slices.Contains(l, x) {
			l = append(l, x)
		}
	}
	return l
}

// somePoints returns lists of points modulo q of several lengths, up to MaxList or q: in no order, increasing, decreasing, and at both ends of the residues.
func somePoints(q int) [][]int {
	n := min(q, maxList)
	up := counting(n)
	down, last := slices.Clone(up), slices.Clone(up)
	slices.Reverse(down)
	for i := range last {
		last[i] += q - n
	}
	points := [][]int{{0}, {1}, {q - 1}, {0, q - 1}, {q - 1, 0}, {1, 0}, up, down, last, orderedPoints(q, n)}
	for _, l := range [][]int{orderedPoints(q, 2), orderedPoints(q, 3), orderedPoints(q, 7), orderedPoints(q, maxList-1), up[n/2:]} {
		points = append(points, l)
	}
	return points
}

// badPoints returns lists that no function takes as points: those of badFieldLists, no points, and points that stand there twice, next to each other and not.
func badPoints(q int) [][]int {
	bad := append(badFieldLists(q), nil, []int{}, []int{0, 0}, []int{1, 1}, []int{q - 1, q - 1}, []int{0, 1, 0}, []int{1, 0, 0}, []int{1, 1, 0}, repeated(1, maxList))
	points := orderedPoints(q, min(q, maxList-1))
	for i := range points {
		bad = append(bad, append(slices.Clone(points), points[i]), append([]int{points[i]}, points...))
	}
	return bad
}

// allPolys returns all polynomials with exactly n coefficients modulo a small q.
func allPolys(q int, n int) [][]int {
	polys := [][]int{nil}
	for range n {
		var longer [][]int
		for _, f := range polys {
			for c := range q {
				longer = append(longer, append(slices.Clone(f), c))
			}
		}
		polys = longer
	}
	return polys
}

// allPoints returns all lists of points modulo a small q, in all orders.
func allPoints(q int) [][]int {
	var points [][]int
	for n := 1; n <= q; n++ {
		for _, l := range allPolys(q, n) {
			if len(slices.Compact(slices.Sorted(slices.Values(l)))) == n {
				points = append(points, l)
			}
		}
	}
	return points
}

// wantPowers returns the first n powers of x by big integers.
func wantPowers(q int, x int, n int) []int {
	powers := make([]int, n)
	for i := range powers {
		powers[i] = wantPower(x, i, q)
	}
	return powers
}

// wantValue returns the value of f at x, the sum of the products of coefficients and powers, by big integers.
func wantValue(q int, f []int, x int) int {
	return wantDot(f, wantPowers(q, x, len(f)), q)
}

// wantValues returns the values of f at all elements of a list.
func wantValues(q int, f []int, xs []int) []int {
	values := make([]int, len(xs))
	for i, x := range xs {
		values[i] = wantValue(q, f, x)
	}
	return values
}

// wantMul returns the product of two polynomials that have coefficients: each coefficient is a sum of products, by big integers.
func wantMul(q int, f []int, g []int) []int {
	product := make([]int, len(f)+len(g)-1)
	for k := range product {
		var a, b []int
		for i := range f {
			if j := k - i; 0 <= j && j < len(g) {
				a, b = append(a, f[i]), append(b, g[j])
			}
		}
		product[k] = wantDot(a, b, q)
	}
	return product
}

func TestEvalPolyExamples(t *testing.T) {
	for _, c := range []struct {
		q    int
		f    []int
		x    int
		want int
	}{
		{7, []int{1, 2, 3}, 2, 3}, {7, nil, 3, 0}, {7, []int{0}, 3, 0}, {7, []int{5}, 0, 5}, {7, []int{5, 6}, 0, 5}, {7, []int{5, 6, 6}, 1, 3},
		{7, []int{0, 1}, 6, 6}, {7, []int{0, 0, 1}, 6, 1}, {7, []int{1, 2, 3, 0, 0}, 2, 3}, {2, []int{1, 1}, 1, 0}, {2, []int{1, 1}, 0, 1},
		{topPrime, []int{1, topPrime - 1}, topPrime - 1, 2}, {topPrime, repeated(topPrime-1, maxList), topPrime - 1, 0}, {topPrime, repeated(topPrime-1, maxList-1), topPrime - 1, topPrime - 1},
	} {
		got, ok := impl.EvalPoly(c.q, c.f, c.x)
		checkInt(t, fmt.Sprintf("EvalPoly(%d, %v, %d)", c.q, c.f, c.x), c.want, got, ok)
	}
}

func TestEvalPolyOfSmallModuli(t *testing.T) {
	for _, q := range smallPrimes {
		for n := range 5 {
			for _, f := range allPolys(q, n) {
				for x := range q {
					got, ok := impl.EvalPoly(q, f, x)
					checkInt(t, fmt.Sprintf("EvalPoly(%d, %v, %d)", q, f, x), wantValue(q, f, x), got, ok)
				}
			}
		}
	}
}

func TestEvalPolyOfAllModuli(t *testing.T) {
	for _, q := range fieldPrimes {
		for _, f := range somePolys(q) {
			for _, x := range firstOf(q, 20) {
				got, ok := impl.EvalPoly(q, f, x)
				checkInt(t, fmt.Sprintf("EvalPoly(%d, %v, %d)", q, f, x), wantValue(q, f, x), got, ok)
			}
		}
	}
}

// TestFermat takes the polynomial t^q - t, whose value is 0 everywhere.
func TestFermat(t *testing.T) {
	for _, q := range primesBelow(maxList) {
		f := append([]int{0}, repeated(0, q)...)
		f[1], f[q] = q-1, 1
		got, ok := impl.EvalAll(q, f, counting(q))
		checkList(t, fmt.Sprintf("EvalAll(%d, %v)", q, f), repeated(0, q), got, ok)
	}
}

func TestEvalPolyInvalid(t *testing.T) {
	for _, q := range notPrimes {
		for _, f := range [][]int{nil, {0}, {1}, {1, 1}} {
			for _, x := range []int{0, 1} {
				got, ok := impl.EvalPoly(q, f, x)
				checkNoInt(t, fmt.Sprintf("EvalPoly(%d, %v, %d)", q, f, x), got, ok)
			}
		}
	}
	for _, q := range fieldPrimes {
		for _, f := range badFieldLists(q) {
			for _, x := range []int{0, 1, q - 1} {
				got, ok := impl.EvalPoly(q, f, x)
				checkNoInt(t, fmt.Sprintf("EvalPoly(%d, %v, %d)", q, f, x), got, ok)
			}
		}
		for _, x := range notResidues(q) {
			for _, f := range [][]int{nil, {0}, {1}, {1, 1}} {
				got, ok := impl.EvalPoly(q, f, x)
				checkNoInt(t, fmt.Sprintf("EvalPoly(%d, %v, %d)", q, f, x), got, ok)
			}
		}
	}
}

func TestEvalAllExamples(t *testing.T) {
	for _, c := range []struct {
		q    int
		f    []int
		xs   []int
		want []int
	}{
		{7, []int{1, 2, 3}, []int{0, 2}, []int{1, 3}}, {7, []int{1, 2, 3}, []int{2, 2, 0, 2}, []int{3, 3, 1, 3}}, {7, []int{1, 2, 3}, nil, nil}, {7, nil, nil, nil},
		{7, nil, []int{3, 0}, []int{0, 0}}, {7, []int{4}, []int{6, 0, 1}, []int{4, 4, 4}}, {7, []int{0, 1}, []int{6, 0, 1}, []int{6, 0, 1}}, {2, []int{1, 1}, []int{1, 0}, []int{0, 1}},
		{topPrime, []int{0, 1}, repeated(topPrime-1, maxList), repeated(topPrime-1, maxList)},
	} {
		got, ok := impl.EvalAll(c.q, c.f, c.xs)
		checkList(t, fmt.Sprintf("EvalAll(%d, %v, %v)", c.q, c.f, c.xs), c.want, got, ok)
	}
}

func TestEvalAllOfAllModuli(t *testing.T) {
	for _, q := range fieldPrimes {
		for _, f := range somePolys(q) {
			for _, xs := range append(somePoints(q), somePolys(q)...) {
				got, ok := impl.EvalAll(q, f, xs)
				checkList(t, fmt.Sprintf("EvalAll(%d, %v, %v)", q, f, xs), wantValues(q, f, xs), got, ok)
			}
		}
	}
}

// checkInvalidPairs fails if a function of two lists takes a modulus that is no prime, or takes a bad list as one of them.
func checkInvalidPairs(t *testing.T, name string, call func(int, []int, []int) ([]int, bool)) {
	t.Helper()
	check := func(q int, f []int, g []int) {
		t.Helper()
		got, ok := call(q, f, g)
		checkNoList(t, fmt.Sprintf("%s(%d, %v, %v)", name, q, f, g), got, ok)
	}
	lists := [][]int{nil, {0}, {1}, {1, 1}, {0, 1}}
	for _, q := range notPrimes {
		for _, f := range lists {
			check(q, f, nil)
			check(q, nil, f)
			check(q, f, f)
		}
	}
	for _, q := range fieldPrimes {
		for _, bad := range badFieldLists(q) {
			for _, f := range lists {
				check(q, f, bad)
				check(q, bad, f)
			}
			check(q, bad, bad)
		}
	}
}

func TestEvalAllInvalid(t *testing.T) {
	checkInvalidPairs(t, "EvalAll", impl.EvalAll)
}

func TestDegreeOfExamples(t *testing.T) {
	for _, c := range []struct {
		q    int
		f    []int
		want int
	}{
		{7, []int{1, 2, 0}, 1}, {7, nil, -1}, {7, []int{}, -1}, {7, []int{0}, -1}, {7, []int{0, 0, 0}, -1}, {7, repeated(0, maxList), -1},
		{7, []int{1}, 0}, {7, []int{6, 0, 0}, 0}, {7, []int{0, 1}, 1}, {7, []int{0, 0, 6}, 2}, {7, []int{1, 0, 6, 0}, 2}, {7, repeated(1, maxList), maxList - 1},
		{2, []int{1, 1}, 1}, {topPrime, []int{0, topPrime - 1, 0}, 1}, {topPrime, append(repeated(0, maxList-1), 1), maxList - 1},
	} {
		got, ok := impl.DegreeOf(c.q, c.f)
		checkInt(t, fmt.Sprintf("DegreeOf(%d, %v)", c.q, c.f), c.want, got, ok)
	}
}

// TestDegreeOfEachIndex puts a coefficient that is not 0 at each index, with zeros or with others before it.
func TestDegreeOfEachIndex(t *testing.T) {
	for _, q := range fieldPrimes {
		for n := 1; n <= maxList; n++ {
			for degree := range n {
				zeros, ones := repeated(0, n), repeated(0, n)
				zeros[degree] = q - 1
				copy(ones, repeated(1, degree+1))
				got, ok := impl.DegreeOf(q, zeros)
				checkInt(t, fmt.Sprintf("DegreeOf(%d, %v)", q, zeros), degree, got, ok)
				got, ok = impl.DegreeOf(q, ones)
				checkInt(t, fmt.Sprintf("DegreeOf(%d, %v)", q, ones), degree, got, ok)
			}
		}
	}
}

// TestDegreeOfProducts takes polynomials that are not 0: the degrees of factors add up.
func TestDegreeOfProducts(t *testing.T) {
	for _, q := range fieldPrimes {
		for _, f := range somePolys(q) {
			for _, g := range somePolys(q) {
				first, _ := impl.DegreeOf(q, f)
				second, _ := impl.DegreeOf(q, g)
				product, ok := impl.MulPolys(q, f, g)
				if !ok || first < 0 || second < 0 {
					continue
				}
				got, ok := impl.DegreeOf(q, product)
				checkInt(t, fmt.Sprintf("DegreeOf of the product of %v and %v modulo %d", f, g, q), first+second, got, ok)
			}
		}
	}
}

func TestDegreeOfInvalid(t *testing.T) {
	for _, q := range notPrimes {
		for _, f := range [][]int{nil, {0}, {1}, {0, 1}} {
			got, ok := impl.DegreeOf(q, f)
			checkNoInt(t, fmt.Sprintf("DegreeOf(%d, %v)", q, f), got, ok)
		}
	}
	for _, q := range fieldPrimes {
		for _, f := range badFieldLists(q) {
			got, ok := impl.DegreeOf(q, f)
			checkNoInt(t, fmt.Sprintf("DegreeOf(%d, %v)", q, f), got, ok)
		}
	}
}

func TestAddPolysExamples(t *testing.T) {
	for _, c := range []struct {
		q    int
		f    []int
		g    []int
		want []int
	}{
		{7, []int{1, 6}, []int{1, 2, 3}, []int{2, 1, 3}}, {7, []int{1, 2, 3}, []int{1, 6}, []int{2, 1, 3}}, {7, nil, nil, nil}, {7, nil, []int{5}, []int{5}}, {7, []int{5}, nil, []int{5}},
		{7, nil, []int{0, 0}, []int{0, 0}}, {7, []int{1, 2}, []int{6, 5}, []int{0, 0}}, {7, []int{1, 0, 0}, []int{1}, []int{2, 0, 0}}, {2, []int{1, 1}, []int{1, 0}, []int{0, 1}},
		{topPrime, repeated(topPrime-1, maxList), repeated(topPrime-1, maxList), repeated(topPrime-2, maxList)}, {topPrime, repeated(topPrime-1, maxList), nil, repeated(topPrime-1, maxList)},
	} {
		got, ok := impl.AddPolys(c.q, c.f, c.g)
		checkList(t, fmt.Sprintf("AddPolys(%d, %v, %v)", c.q, c.f, c.g), c.want, got, ok)
	}
}

// padded returns a copy of f with zeros up to n coefficients.
func padded(f []int, n int) []int {
	return append(slices.Clone(f), repeated(0, n-len(f))...)
}

// checkSum fails unless the sum of two polynomials is the sum of their coefficients, and its values the sums of their values.
func checkSum(t *testing.T, q int, f []int, g []int) {
	t.Helper()
	name := fmt.Sprintf("AddPolys(%d, %v, %v)", q, f, g)
	n := max(len(f), len(g))
	first, second := padded(f, n), padded(g, n)
	want := make([]int, n)
	for i := range want {
		want[i] = wantDot([]int{first[i], second[i]}, []int{1, 1}, q)
	}
	got, ok := impl.AddPolys(q, f, g)
	checkList(t, name, want, got, ok)
	for _, x := range firstOf(q, 8) {
		a, _ := impl.EvalPoly(q, f, x)
		b, _ := impl.EvalPoly(q, g, x)
		value, ok := impl.EvalPoly(q, got, x)
		checkInt(t, fmt.Sprintf("the value of %s at %d", name, x), (a+b)%q, value, ok)
	}
}

// checkProduct fails unless the product of two polynomials with coefficients is the one by big integers, and its values the products of their values.
func checkProduct(t *testing.T, q int, f []int, g []int) {
	t.Helper()
	name := fmt.Sprintf("MulPolys(%d, %v, %v)", q, f, g)
	got, ok := impl.MulPolys(q, f, g)
	checkList(t, name, wantMul(q, f, g), got, ok)
	for _, x := range firstOf(q, 8) {
		a, _ := impl.EvalPoly(q, f, x)
		b, _ := impl.EvalPoly(q, g, x)
		value, ok := impl.EvalPoly(q, got, x)
		checkInt(t, fmt.Sprintf("the value of %s at %d", name, x), a*b%q, value, ok)
	}
}

func TestSumsAndProductsOfSmallModuli(t *testing.T) {
	for _, q := range smallPrimes[:2] {
		polys := slices.Concat(allPolys(q, 0), allPolys(q, 1), allPolys(q, 2), allPolys(q, 3))
		for _, f := range polys {
			for _, g := range polys {
				checkSum(t, q, f, g)
				if len(f) > 0 && len(g) > 0 {
					checkProduct(t, q, f, g)
				}
			}
		}
	}
}

func TestAddPolysOfAllModuli(t *testing.T) {
	for _, q := range fieldPrimes {
		for _, f := range somePolys(q) {
			for _, g := range somePolys(q) {
				checkSum(t, q, f, g)
			}
		}
	}
}

func TestAddPolysInvalid(t *testing.T) {
	checkInvalidPairs(t, "AddPolys", impl.AddPolys)
}

func TestMulPolysExamples(t *testing.T) {
	for _, c := range []struct {
		q    int
		f    []int
		g    []int
		want []int
	}{
		{7, []int{1, 1}, []int{6, 1}, []int{6, 0, 1}}, {7, []int{3}, []int{5}, []int{1}}, {7, []int{0}, []int{0}, []int{0}}, {7, []int{0, 0}, []int{1, 2}, []int{0, 0, 0}},
		{7, []int{1, 2, 0}, []int{3, 0}, []int{3, 6, 0, 0}}, {7, []int{1}, []int{4, 5, 6}, []int{4, 5, 6}}, {2, []int{1, 1}, []int{1, 1}, []int{1, 0, 1}},
		{topPrime, []int{topPrime - 1, topPrime - 1}, []int{topPrime - 1, topPrime - 1}, []int{1, 2, 1}},
		{topPrime, repeated(topPrime-1, maxList), []int{topPrime - 1}, repeated(1, maxList)}, {topPrime, []int{topPrime - 1}, repeated(topPrime-1, maxList), repeated(1, maxList)},
	} {
		got, ok := impl.MulPolys(c.q, c.f, c.g)
		checkList(t, fmt.Sprintf("MulPolys(%d, %v, %v)", c.q, c.f, c.g), c.want, got, ok)
	}
}

// TestMulPolysWithoutCoefficients takes a factor that has no coefficients: the product has none, however long the other factor is.
func TestMulPolysWithoutCoefficients(t *testing.T) {
	for _, q := range fieldPrimes {
		for _, f := range somePolys(q) {
			for _, none := range [][]int{nil, {}} {
				got, ok := impl.MulPolys(q, f, none)
				checkList(t, fmt.Sprintf("MulPolys(%d, %v, none)", q, f), nil, got, ok)
				got, ok = impl.MulPolys(q, none, f)
				checkList(t, fmt.Sprintf("MulPolys(%d, none, %v)", q, f), nil, got, ok)
			}
		}
	}
}

// TestMulPolysOfAllLengths takes all pairs of lengths: the product is refused if it would be too long, even if only zeros were to be cut off.
func TestMulPolysOfAllLengths(t *testing.T) {
	for _, q := range []int{2, 7, topPrime} {
		for n := 1; n <= maxList; n++ {
			for m := 1; m <= maxList; m++ {
				for _, f := range [][]int{someResidues(q)[:n], someResidues(q)[30 : 30+n], repeated(q-1, n), repeated(0, n)} {
					g := someResidues(q)[20 : 20+m]
					if n+m-1 <= maxList {
						checkProduct(t, q, f, g)
						continue
					}
					got, ok := impl.MulPolys(q, f, g)
					checkNoList(t, fmt.Sprintf("MulPolys(%d, %v, %v)", q, f, g), got, ok)
				}
			}
		}
	}
}

func TestMulPolysOfAllModuli(t *testing.T) {
	for _, q := range fieldPrimes {
		for _, f := range somePolys(q) {
			for _, g := range somePolys(q) {
				if len(f) > 0 && len(g) > 0 && len(f)+len(g)-1 <= maxList {
					checkProduct(t, q, f, g)
				}
			}
		}
	}
}

func TestMulPolysInvalid(t *testing.T) {
	checkInvalidPairs(t, "MulPolys", impl.MulPolys)
}

func TestPolyFromRootsExamples(t *testing.T) {
	for _, c := range []struct {
		q     int
		roots []int
		want  []int
	}{
		{7, []int{1, 2}, []int{2, 4, 1}}, {7, []int{2, 1}, []int{2, 4, 1}}, {7, nil, []int{1}}, {7, []int{}, []int{1}}, {7, []int{0}, []int{0, 1}}, {7, []int{3}, []int{4, 1}},
		{7, []int{1, 1}, []int{1, 5, 1}}, {7, []int{1, 2, 1}, []int{5, 5, 3, 1}}, {7, []int{0, 0, 0}, []int{0, 0, 0, 1}}, {7, counting(7), []int{0, 6, 0, 0, 0, 0, 0, 1}},
		{2, []int{1}, []int{1, 1}}, {2, []int{1, 0, 1}, []int{0, 1, 0, 1}}, {topPrime, []int{topPrime - 1, 1}, []int{topPrime - 1, 0, 1}},
		{topPrime, repeated(0, maxList-1), append(repeated(0, maxList-1), 1)},
	} {
		got, ok := impl.PolyFromRoots(c.q, c.roots)
		checkList(t, fmt.Sprintf("PolyFromRoots(%d, %v)", c.q, c.roots), c.want, got, ok)
	}
}

// rootLists returns lists of roots modulo q of several lengths, up to the greatest one for which there is a result. Some roots stand there twice.
func rootLists(q int) [][]int {
	r := someResidues(q)
	lists := [][]int{nil, {}, {0}, {q - 1}, {0, 0}, {1, 1, 0}, r[:3], r[3:9], r[:maxList-1], repeated(q-1, maxList-1), repeated(0, maxList-1), append(slices.Clone(r[7:17]), r[8:18]...)}
	return append(lists, orderedPoints(q, maxList-1))
}

// wantFactors returns the product of x - r over all roots r, by big integers.
func wantFactors(q int, roots []int, x int) int {
	product := 1
	for _, r := range roots {
		product = wantDot([]int{product}, []int{(x - r + q) % q}, q)
	}
	return product
}

// TestPolyFromRootsOfAllModuli compares with the products of factors by big integers.
func TestPolyFromRootsOfAllModuli(t *testing.T) {
	for _, q := range fieldPrimes {
		for _, roots := range rootLists(q) {
			want := []int{1}
			for _, r := range roots {
				want = wantMul(q, want, []int{(q - r) % q, 1})
			}
			got, ok := impl.PolyFromRoots(q, roots)
			checkList(t, fmt.Sprintf("PolyFromRoots(%d, %v)", q, roots), want, got, ok)
			for _, x := range append(firstOf(q, 8), roots...) {
				value, ok := impl.EvalPoly(q, got, x)
				checkInt(t, fmt.Sprintf("the value of PolyFromRoots(%d, %v) at %d", q, roots, x), wantFactors(q, roots, x), value, ok)
			}
		}
	}
}

func TestPolyFromRootsInvalid(t *testing.T) {
	check := func(q int, roots []int) {
		t.Helper()
		got, ok := impl.PolyFromRoots(q, roots)
		checkNoList(t, fmt.Sprintf("PolyFromRoots(%d, %v)", q, roots), got, ok)
	}
	for _, q := range notPrimes {
		for _, roots := range [][]int{nil, {0}, {1}, {1, 0}} {
			check(q, roots)
		}
	}
	for _, q := range fieldPrimes {
		for _, roots := range badFieldLists(q) {
			check(q, roots)
		}
		// The result would have one coefficient too many.
		check(q, someResidues(q)[:maxList])
		check(q, repeated(0, maxList))
		check(q, repeated(1, maxList))
	}
}
