package tests

import (
	"fmt"
	"math"
	"slices"
	"testing"

	"loop.example/g00878/impl"
)

// Promise 5 for the functions of points: interpolation inverts evaluation.

func TestLagrangeCoefsExamples(t *testing.T) {
	for _, c := range []struct {
		q    int
		xs   []int
		x    int
		want []int
	}{
		{11, []int{1, 2}, 0, []int{2, 10}}, {11, []int{2, 1}, 0, []int{10, 2}}, {11, []int{1, 2}, 1, []int{1, 0}}, {11, []int{1, 2}, 2, []int{0, 1}},
		{11, []int{5}, 0, []int{1}}, {11, []int{5}, 5, []int{1}}, {11, []int{0}, 10, []int{1}}, {11, []int{1, 2, 3}, 0, []int{3, 8, 1}}, {11, []int{3, 1, 2}, 0, []int{1, 3, 8}},
		{2, []int{0}, 1, []int{1}}, {2, []int{1, 0}, 1, []int{1, 0}}, {2, []int{0, 1}, 1, []int{0, 1}}, {topPrime, []int{1, 2}, 0, []int{2, topPrime - 1}},
	} {
		got, ok := impl.LagrangeCoefs(c.q, c.xs, c.x)
		checkList(t, fmt.Sprintf("LagrangeCoefs(%d, %v, %d)", c.q, c.xs, c.x), c.want, got, ok)
	}
}

// checkLagrange fails unless there is one residue for each point, and the sum of the products with the powers of the points is the power of x, for each of the powers that make up the polynomials. Only one list of residues has these sums.
func checkLagrange(t *testing.T, q int, xs []int, x int) {
	t.Helper()
	name := fmt.Sprintf("LagrangeCoefs(%d, %v, %d)", q, xs, x)
	coefs, ok := impl.LagrangeCoefs(q, xs, x)
	if !ok || len(coefs) != len(xs) {
		t.Errorf("%s = %v, %v", name, coefs, ok)
		return
	}
	for _, c := range coefs {
		if c < 0 || c >= q {
			t.Errorf("%s = %v has %d", name, coefs, c)
		}
	}
	for e := range xs {
		powers := make([]int, len(xs))
		for i, point := range xs {
			powers[i] = wantPower(point, e, q)
		}
		if sum, want := wantDot(coefs, powers, q), wantPower(x, e, q); sum != want {
			t.Errorf("%s = %v; the sum for the power %d is %d, not %d", name, coefs, e, sum, want)
		}
	}
}

func TestLagrangeCoefsOfSmallModuli(t *testing.T) {
	for _, q := range smallPrimes {
		for _, xs := range allPoints(q) {
			for x := range q {
				checkLagrange(t, q, xs, x)
			}
		}
	}
}

func TestLagrangeCoefsOfAllModuli(t *testing.T) {
	for _, q := range fieldPrimes {
		for _, xs := range somePoints(q) {
			for _, x := range append(firstOf(q, 8), xs[0], xs[len(xs)-1]) {
				checkLagrange(t, q, xs, x)
			}
		}
	}
}

// TestLagrangeCoefsAtPoints takes each of the points as x: its coefficient is 1, and all others are 0.
func TestLagrangeCoefsAtPoints(t *testing.T) {
	for _, q := range fieldPrimes {
		for _, xs := range somePoints(q) {
			for i, x := range xs {
				want := repeated(0, len(xs))
				want[i] = 1
				got, ok := impl.LagrangeCoefs(q, xs, x)
				checkList(t, fmt.Sprintf("LagrangeCoefs(%d, %v, %d)", q, xs, x), want, got, ok)
			}
		}
	}
}

func TestLagrangeCoefsInvalid(t *testing.T) {
	check := func(q int, xs []int, x int) {
		t.Helper()
		got, ok := impl.LagrangeCoefs(q, xs, x)
		checkNoList(t, fmt.Sprintf("LagrangeCoefs(%d, %v, %d)", q, xs, x), got, ok)
	}
	for _, q := range notPrimes {
		for _, xs := range [][]int{nil, {0}, {1}, {1, 0}} {
			check(q, xs, 0)
			check(q, xs, 1)
		}
	}
	for _, q := range fieldPrimes {
		for _, xs := range badPoints(q) {
			check(q, xs, 0)
			check(q, xs, 1)
			check(q, xs, q-1)
		}
		for _, x := range notResidues(q) {
			check(q, []int{0}, x)
			check(q, []int{q - 1, 0}, x)
		}
	}
}

func TestInterpolateExamples(t *testing.T) {
	for _, c := range []struct {
		q    int
		xs   []int
		ys   []int
		want []int
	}{
		{11, []int{1, 2}, []int{5, 7}, []int{3, 2}}, {11, []int{2, 1}, []int{7, 5}, []int{3, 2}}, {11, []int{4}, []int{9}, []int{9}}, {11, []int{4}, []int{0}, []int{0}},
		{11, []int{1, 2, 3}, []int{5, 5, 5}, []int{5, 0, 0}}, {11, []int{1, 2, 3}, []int{5, 7, 9}, []int{3, 2, 0}}, {11, []int{3, 1, 2}, []int{9, 1, 4}, []int{0, 0, 1}}, {11, []int{3, 1, 2}, []int{0, 0, 0}, []int{0, 0, 0}},
		{2, []int{0}, []int{1}, []int{1}}, {2, []int{1, 0}, []int{0, 1}, []int{1, 1}}, {7, []int{0, 1, 2}, []int{1, 6, 3}, []int{1, 2, 3}},
		{topPrime, []int{0, topPrime - 1}, []int{topPrime - 1, 0}, []int{topPrime - 1, topPrime - 1}},
	} {
		got, ok := impl.Interpolate(c.q, c.xs, c.ys)
		checkList(t, fmt.Sprintf("Interpolate(%d, %v, %v)", c.q, c.xs, c.ys), c.want, got, ok)
	}
}

// checkInterpolated fails unless ys, the values of f at the points xs, give back f and its values elsewhere, for a polynomial with as many coefficients as there are points.
func checkInterpolated(t *testing.T, q int, f []int, xs []int, others []int) {
	t.Helper()
	ys := wantValues(q, f, xs)
	got, ok := impl.Interpolate(q, xs, ys)
	checkList(t, fmt.Sprintf("Interpolate(%d, %v, %v)", q, xs, ys), f, got, ok)
	for _, x := range append(slices.Clone(others), xs...) {
		value, ok := impl.ValueFrom(q, xs, ys, x)
		checkInt(t, fmt.Sprintf("ValueFrom(%d, %v, %v, %d)", q, xs, ys, x), wantValue(q, f, x), value, ok)
	}
}

// TestInterpolationOfSmallModuli takes all polynomials with up to three coefficients and all lists of up to three points: each list of values belongs to one of the polynomials, so that all values are tried, too.
func TestInterpolationOfSmallModuli(t *testing.T) {
	for _, q := range smallPrimes {
		for _, xs := range allPoints(q) {
			if len(xs) > 3 {
				continue
			}
			for _, f := range allPolys(q, len(xs)) {
				checkInterpolated(t, q, f, xs, counting(q))
			}
		}
	}
}

func TestInterpolationOfAllModuli(t *testing.T) {
	for _, q := range fieldPrimes {
		r := someResidues(q)
		for _, xs := range somePoints(q) {
			n := len(xs)
			for _, f := range [][]int{r[:n], r[20 : 20+n], repeated(0, n), repeated(q-1, n), padded([]int{q - 1}, n), padded(r[4:4+n/2], n)} {
				checkInterpolated(t, q, f, xs, r[:6])
			}
		}
	}
}

// TestInterpolationOfAnyValues takes values that are not computed from a polynomial: the interpolated one has them.
func TestInterpolationOfAnyValues(t *testing.T) {
	for _, q := range fieldPrimes {
		r := someResidues(q)
		for _, xs := range somePoints(q) {
			for _, ys := range [][]int{r[:len(xs)], r[30 : 30+len(xs)], repeated(q-1, len(xs)), xs} {
				f, ok := impl.Interpolate(q, xs, ys)
				if !ok || len(f) != len(xs) {
					t.Errorf("Interpolate(%d, %v, %v) = %v, %v", q, xs, ys, f, ok)
				}
				back, ok := impl.EvalAll(q, f, xs)
				checkList(t, fmt.Sprintf("the values of Interpolate(%d, %v, %v)", q, xs, ys), ys, back, ok)
				for _, x := range r[:6] {
					value, ok := impl.ValueFrom(q, xs, ys, x)
					checkInt(t, fmt.Sprintf("ValueFrom(%d, %v, %v, %d)", q, xs, ys, x), wantValue(q, f, x), value, ok)
				}
			}
		}
	}
}

// TestInterpolationInAnyOrder puts the points with their values in other orders, which must not matter.
func TestInterpolationInAnyOrder(t *testing.T) {
	for _, q := range fieldPrimes {
		for _, xs := range somePoints(q) {
			ys := someResidues(q)[10 : 10+len(xs)]
			want, _ := impl.Interpolate(q, xs, ys)
			wantAt, _ := impl.ValueFrom(q, xs, ys, q/3)
			for k := range xs {
				otherXs := append(slices.Clone(xs[k:]), xs[:k]...)
				otherYs := append(slices.Clone(ys[k:]), ys[:k]...)
				slices.Reverse(otherXs)
				slices.Reverse(otherYs)
				got, ok := impl.Interpolate(q, otherXs, otherYs)
				checkList(t, fmt.Sprintf("Interpolate(%d, %v, %v)", q, otherXs, otherYs), want, got, ok)
				value, ok := impl.ValueFrom(q, otherXs, otherYs, q/3)
				checkInt(t, fmt.Sprintf("ValueFrom(%d, %v, %v, %d)", q, otherXs, otherYs, q/3), wantAt, value, ok)
			}
		}
	}
}

func TestValueFromExamples(t *testing.T) {
	for _, c := range []struct {
		q    int
		xs   []int
		ys   []int
		x    int
		want int
	}{
		{11, []int{1, 2}, []int{5, 7}, 0, 3}, {11, []int{2, 1}, []int{7, 5}, 0, 3}, {11, []int{1, 2}, []int{5, 7}, 1, 5}, {11, []int{1, 2}, []int{5, 7}, 2, 7}, {11, []int{1, 2}, []int{5, 7}, 10, 1},
		{11, []int{4}, []int{9}, 0, 9}, {11, []int{4}, []int{9}, 4, 9}, {11, []int{4}, []int{0}, 7, 0}, {11, []int{0, 1, 2}, []int{0, 1, 4}, 5, 3}, {11, []int{2, 0, 1}, []int{4, 0, 1}, 5, 3},
		{2, []int{1}, []int{1}, 0, 1}, {2, []int{0, 1}, []int{1, 0}, 1, 0}, {topPrime, []int{0, topPrime - 1}, []int{topPrime - 1, 0}, 1, topPrime - 2},
	} {
		got, ok := impl.ValueFrom(c.q, c.xs, c.ys, c.x)
		checkInt(t, fmt.Sprintf("ValueFrom(%d, %v, %v, %d)", c.q, c.xs, c.ys, c.x), c.want, got, ok)
	}
}

// checkNotInterpolated fails if Interpolate takes points and values, or ValueFrom with one of some residues.
func checkNotInterpolated(t *testing.T, q int, xs []int, ys []int) {
	t.Helper()
	got, ok := impl.Interpolate(q, xs, ys)
	checkNoList(t, fmt.Sprintf("Interpolate(%d, %v, %v)", q, xs, ys), got, ok)
	for _, x := range []int{0, 1, q - 1} {
		value, ok := impl.ValueFrom(q, xs, ys, x)
		checkNoInt(t, fmt.Sprintf("ValueFrom(%d, %v, %v, %d)", q, xs, ys, x), value, ok)
	}
}

func TestInterpolationOfBadPoints(t *testing.T) {
	for _, q := range notPrimes {
		for _, xs := range [][]int{nil, {0}, {1}, {1, 0}, {0, 1}} {
			checkNotInterpolated(t, q, xs, xs)
			checkNotInterpolated(t, q, xs, repeated(0, len(xs)))
		}
	}
	for _, q := range fieldPrimes {
		for _, xs := range badPoints(q) {
			checkNotInterpolated(t, q, xs, repeated(0, len(xs)))
			checkNotInterpolated(t, q, xs, repeated(q-1, len(xs)))
			checkNotInterpolated(t, q, xs, xs)
		}
	}
}

// TestInterpolationOfBadValues takes right points and one value that is no residue, at each index.
func TestInterpolationOfBadValues(t *testing.T) {
	for _, q := range fieldPrimes {
		for _, xs := range somePoints(q) {
			for i := range xs {
				for _, y := range notResidues(q) {
					ys := repeated(1, len(xs))
					ys[i] = y
					checkNotInterpolated(t, q, xs, ys)
				}
			}
		}
	}
}

func TestInterpolationOfOtherNumbersOfValues(t *testing.T) {
	for _, q := range fieldPrimes {
		for _, xs := range somePoints(q) {
			for n := range maxList + 3 {
				if n != len(xs) {
					checkNotInterpolated(t, q, xs, repeated(0, n))
					checkNotInterpolated(t, q, xs, repeated(1, n))
				}
			}
			checkNotInterpolated(t, q, xs, repeated(0, maxTerms))
			checkNotInterpolated(t, q, xs, nil)
		}
	}
}

func TestValueFromInvalidX(t *testing.T) {
	for _, q := range fieldPrimes {
		for _, xs := range somePoints(q) {
			for _, x := range append(notResidues(q), math.MaxInt-1, -q+1) {
				value, ok := impl.ValueFrom(q, xs, repeated(1, len(xs)), x)
				checkNoInt(t, fmt.Sprintf("ValueFrom(%d, %v, ones, %d)", q, xs, x), value, ok)
			}
		}
	}
}
