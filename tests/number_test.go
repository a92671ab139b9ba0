package tests

import (
	"fmt"
	"math"
	"math/big"
	"slices"
	"testing"

	"loop.example/g00878/impl"
)

// Promise 1: inverses, sums of products and factorisations are computed back.
// The expected values come from trying everything for small numbers, and from big integers for large ones.

// largeModuli are moduli near MaxModulus: primes, a square of a prime, and numbers with many divisors.
var largeModuli = []int{topPrime, 1999999943, 44711 * 44711, 1 << 30, 1999999998, maxModulus - 1, maxModulus}

// someResidues returns residues modulo m: the least, the greatest and some between.
func someResidues(m int) []int {
	l := []int{0, 1, m / 2, m - 1}
	for x := 1; len(l) < 60; {
		x = (x*48271 + 11) % 2147483647
		l = append(l, x%m)
	}
	return l
}

// isComposite reports whether n has a divisor in 2..n-1.
func isComposite(n int) bool {
	for d := 2; d*d <= n; d++ {
		if n%d == 0 {
			return true
		}
	}
	return false
}

// primesBelow returns the primes below n.
func primesBelow(n int) []int {
	var l []int
	for p := 2; p < n; p++ {
		if !isComposite(p) {
			l = append(l, p)
		}
	}
	return l
}

// primeDivisors returns the primes that divide n, by dividing them out.
func primeDivisors(n int) []int {
	var l []int
	for d := 2; n > 1; d++ {
		if d*d > n {
			return append(l, n)
		}
		if n%d == 0 {
			l = append(l, d)
		}
		for n%d == 0 {
			n /= d
		}
	}
	return l
}

// wantInverse returns the inverse of a modulo m by big integers, and whether there is one.
func wantInverse(a int, m int) (int, bool) {
	x := new(big.Int).ModInverse(big.NewInt(int64(a)), big.NewInt(int64(m)))
	if x == nil {
		return 0, false
	}
	return int(x.Int64()), true
}

// wantPower returns the residue of a power by big integers.
func wantPower(a int, e int, m int) int {
	return int(new(big.Int).Exp(big.NewInt(int64(a)), big.NewInt(int64(e)), big.NewInt(int64(m))).Int64())
}

// wantDot returns the residue of a sum of products by big integers.
func wantDot(a []int, b []int, m int) int {
	sum := new(big.Int)
	for i := range a {
		sum.Add(sum, new(big.Int).Mul(big.NewInt(int64(a[i])), big.NewInt(int64(b[i]))))
	}
	return int(sum.Mod(sum, big.NewInt(int64(m))).Int64())
}

// listsOf returns lists of residues modulo m of several lengths, up to MaxTerms.
func listsOf(m int) [][]int {
	r := someResidues(m)
	full := slices.Concat(r, r, r, r)[:maxTerms]
	return [][]int{nil, {}, {0}, {1}, {m - 1}, {m - 1, 1}, r, full, repeated(m-1, maxTerms), repeated(0, maxTerms)}
}

// badLists returns lists that are not lists of residues modulo m: one bad element at the start, in the middle or at the end, or too many.
func badLists(m int) [][]int {
	bad := [][]int{repeated(0, maxTerms+1), repeated(1, maxTerms+1), repeated(m-1, maxTerms+1), repeated(m, maxTerms+1)}
	for _, x := range notResidues(m) {
		bad = append(bad, []int{x}, []int{x, 1, 1}, []int{1, x, 1}, []int{1, 1, x})
	}
	return bad
}

func TestInverseModExample(t *testing.T) {
	x, ok := impl.InverseMod(3, 10)
	checkInt(t, "InverseMod(3, 10)", 7, x, ok)
}

func checkInverse(t *testing.T, a int, m int) {
	t.Helper()
	name := fmt.Sprintf("InverseMod(%d, %d)", a, m)
	x, ok := impl.InverseMod(a, m)
	want, exists := wantInverse(a, m)
	if !exists {
		checkNoInt(t, name, x, ok)
		return
	}
	checkInt(t, name, want, x, ok)
	back, ok := impl.InverseMod(x, m)
	checkInt(t, "the inverse of "+name, a, back, ok)
	one, ok := impl.DotMod([]int{a}, []int{x}, m)
	checkInt(t, "the product with "+name, 1, one, ok)
}

func TestInverseModOfAllSmallResidues(t *testing.T) {
	for m := 2; m <= 130; m++ {
		for a := range m {
			checkInverse(t, a, m)
		}
	}
}

func TestInverseModOfLargeModuli(t *testing.T) {
	for _, m := range largeModuli {
		for _, a := range someResidues(m) {
			checkInverse(t, a, m)
		}
	}
}

func TestInverseModEdges(t *testing.T) {
	x, ok := impl.InverseMod(1, 2)
	checkInt(t, "InverseMod(1, 2)", 1, x, ok)
	x, ok = impl.InverseMod(maxModulus-1, maxModulus)
	checkInt(t, "InverseMod(m-1, m)", maxModulus-1, x, ok)
	for _, m := range []int{2, 10, topPrime, maxModulus} {
		x, ok = impl.InverseMod(0, m)
		checkNoInt(t, fmt.Sprintf("InverseMod(0, %d)", m), x, ok)
	}
	x, ok = impl.InverseMod(5, maxModulus)
	checkNoInt(t, "InverseMod(5, MaxModulus)", x, ok)
}

func TestInverseModInvalid(t *testing.T) {
	for _, m := range badModuli {
		for _, a := range []int{0, 1, 3} {
			x, ok := impl.InverseMod(a, m)
			checkNoInt(t, fmt.Sprintf("InverseMod(%d, %d)", a, m), x, ok)
		}
	}
	for _, m := range []int{2, 10, 97, maxModulus} {
		for _, a := range notResidues(m) {
			x, ok := impl.InverseMod(a, m)
			checkNoInt(t, fmt.Sprintf("InverseMod(%d, %d)", a, m), x, ok)
		}
	}
}

func TestPowerModExample(t *testing.T) {
	x, ok := impl.PowerMod(2, 10, 1000)
	checkInt(t, "PowerMod(2, 10, 1000)", 24, x, ok)
}

func TestPowerModByMultiplying(t *testing.T) {
	for m := 2; m <= 40; m++ {
		for a := range m {
			power := 1
			for e := range 45 {
				x, ok := impl.PowerMod(a, e, m)
				checkInt(t, fmt.Sprintf("PowerMod(%d, %d, %d)", a, e, m), power, x, ok)
				power = power * a % m
			}
		}
	}
}

func TestPowerModOfLargeNumbers(t *testing.T) {
	exps := []int{0, 1, 2, 3, 1000, 1 << 30, topPrime - 1, maxModulus - 1, maxModulus}
	for _, m := range append([]int{2, 3, 1000}, largeModuli...) {
		for _, a := range someResidues(m) {
			for _, e := range exps {
				x, ok := impl.PowerMod(a, e, m)
				checkInt(t, fmt.Sprintf("PowerMod(%d, %d, %d)", a, e, m), wantPower(a, e, m), x, ok)
			}
		}
	}
}

func TestPowerModEdges(t *testing.T) {
	for _, m := range []int{2, 10, maxModulus} {
		x, ok := impl.PowerMod(0, 0, m)
		checkInt(t, "the power of 0 with 0", 1, x, ok)
		x, ok = impl.PowerMod(0, maxModulus, m)
		checkInt(t, "the power of 0 with MaxModulus", 0, x, ok)
		x, ok = impl.PowerMod(m-1, 0, m)
		checkInt(t, "the power of m-1 with 0", 1, x, ok)
		x, ok = impl.PowerMod(m-1, maxModulus, m)
		checkInt(t, "the power of m-1 with MaxModulus", 1, x, ok)
		x, ok = impl.PowerMod(m-1, maxModulus-1, m)
		checkInt(t, "the power of m-1 with MaxModulus-1", m-1, x, ok)
	}
}

func TestPowerModInvalid(t *testing.T) {
	for _, m := range badModuli {
		x, ok := impl.PowerMod(1, 1, m)
		checkNoInt(t, fmt.Sprintf("PowerMod(1, 1, %d)", m), x, ok)
	}
	for _, m := range []int{2, 1000, maxModulus} {
		for _, a := range notResidues(m) {
			x, ok := impl.PowerMod(a, 1, m)
			checkNoInt(t, fmt.Sprintf("PowerMod(%d, 1, %d)", a, m), x, ok)
		}
		for _, e := range []int{math.MinInt, -maxModulus, -1, maxModulus + 1, 1 << 32, math.MaxInt} {
			x, ok := impl.PowerMod(1, e, m)
			checkNoInt(t, fmt.Sprintf("PowerMod(1, %d, %d)", e, m), x, ok)
		}
	}
}

func TestSumModExample(t *testing.T) {
	x, ok := impl.SumMod([]int{3, 4, 5}, 7)
	checkInt(t, "SumMod(3 4 5, 7)", 5, x, ok)
}

func TestSumMod(t *testing.T) {
	for _, m := range append([]int{2, 3, 7, 1000}, largeModuli...) {
		for _, l := range listsOf(m) {
			sum := 0
			for _, x := range l {
				sum += x
			}
			x, ok := impl.SumMod(l, m)
			checkInt(t, fmt.Sprintf("SumMod(%v, %d)", l, m), sum%m, x, ok)
		}
	}
}

func TestSumModInvalid(t *testing.T) {
	for _, m := range badModuli {
		for _, l := range [][]int{nil, {0}, {1, 1}} {
			x, ok := impl.SumMod(l, m)
			checkNoInt(t, fmt.Sprintf("SumMod(%v, %d)", l, m), x, ok)
		}
	}
	for _, m := range []int{2, 7, maxModulus} {
		for _, l := range badLists(m) {
			x, ok := impl.SumMod(l, m)
			checkNoInt(t, fmt.Sprintf("SumMod(%v, %d)", l, m), x, ok)
		}
	}
}

func TestDotModExample(t *testing.T) {
	x, ok := impl.DotMod([]int{1, 2}, []int{3, 4}, 7)
	checkInt(t, "DotMod(1 2, 3 4, 7)", 4, x, ok)
}

func TestDotMod(t *testing.T) {
	for _, m := range append([]int{2, 3, 7, 1000}, largeModuli...) {
		for _, a := range listsOf(m) {
			b := slices.Clone(a)
			slices.Reverse(b)
			for _, c := range [][]int{a, b, repeated(m-1, len(a)), repeated(0, len(a))} {
				x, ok := impl.DotMod(a, c, m)
				checkInt(t, fmt.Sprintf("DotMod(%v, %v, %d)", a, c, m), wantDot(a, c, m), x, ok)
			}
		}
	}
}

func TestDotModOfOnesIsSum(t *testing.T) {
	for _, m := range largeModuli {
		for _, l := range listsOf(m) {
			sum, _ := impl.SumMod(l, m)
			x, ok := impl.DotMod(l, repeated(1, len(l)), m)
			checkInt(t, fmt.Sprintf("DotMod of %v and ones, %d", l, m), sum, x, ok)
		}
	}
}

func TestDotModOfInverses(t *testing.T) {
	for _, m := range []int{2, 97, 1 << 30, topPrime, maxModulus} {
		a := repeated(m-1, maxTerms)
		b, ok := impl.InvertAll(a, m)
		if !ok {
			t.Fatalf("no inverses of m-1 modulo %d", m)
		}
		x, ok := impl.DotMod(a, b, m)
		checkInt(t, fmt.Sprintf("DotMod of inverses modulo %d", m), maxTerms%m, x, ok)
	}
}

func TestDotModInvalid(t *testing.T) {
	for _, m := range badModuli {
		for _, l := range [][]int{nil, {0}, {1, 1}} {
			x, ok := impl.DotMod(l, l, m)
			checkNoInt(t, fmt.Sprintf("DotMod(%v, %v, %d)", l, l, m), x, ok)
		}
	}
	for _, m := range []int{2, 7, maxModulus} {
		for _, l := range badLists(m) {
			good := repeated(1, len(l))
			x, ok := impl.DotMod(l, good, m)
			checkNoInt(t, fmt.Sprintf("DotMod(%v, ones, %d)", l, m), x, ok)
			x, ok = impl.DotMod(good, l, m)
			checkNoInt(t, fmt.Sprintf("DotMod(ones, %v, %d)", l, m), x, ok)
		}
	}
}

func TestDotModOfDifferentLengths(t *testing.T) {
	for _, lengths := range [][2]int{{0, 1}, {1, 0}, {2, 3}, {3, 2}, {maxTerms, maxTerms - 1}, {maxTerms, maxTerms + 1}, {maxTerms + 1, maxTerms}} {
		x, ok := impl.DotMod(repeated(1, lengths[0]), repeated(1, lengths[1]), 7)
		checkNoInt(t, fmt.Sprintf("DotMod of lengths %v", lengths), x, ok)
	}
}

func TestInvertAllExample(t *testing.T) {
	l, ok := impl.InvertAll([]int{1, 3}, 10)
	if !ok || !slices.Equal(l, []int{1, 7}) {
		t.Errorf("InvertAll(1 3, 10) = %v, %v", l, ok)
	}
}

func TestInvertAll(t *testing.T) {
	for _, m := range append([]int{2, 3, 10, 97}, largeModuli...) {
		for _, l := range listsOf(m) {
			var units, want []int
			for _, a := range l {
				if x, ok := wantInverse(a, m); ok {
					units, want = append(units, a), append(want, x)
				}
			}
			got, ok := impl.InvertAll(units, m)
			if !ok || !slices.Equal(got, want) {
				t.Errorf("InvertAll(%v, %d) = %v, %v; want %v", units, m, got, ok, want)
			}
			back, ok := impl.InvertAll(got, m)
			if !ok || !slices.Equal(back, units) {
				t.Errorf("the inverses of InvertAll(%v, %d) are %v, %v", units, m, back, ok)
			}
		}
	}
}

func TestInvertAllEdges(t *testing.T) {
	for _, m := range []int{2, 10, maxModulus} {
		for _, l := range [][]int{nil, {}} {
			if got, ok := impl.InvertAll(l, m); !ok || len(got) != 0 {
				t.Errorf("InvertAll of no elements modulo %d = %v, %v", m, got, ok)
			}
		}
		full := repeated(m-1, maxTerms)
		if got, ok := impl.InvertAll(full, m); !ok || !slices.Equal(got, full) {
			t.Errorf("InvertAll of MaxTerms elements modulo %d = %v, %v", m, got, ok)
		}
	}
}

func TestInvertAllWithoutInverse(t *testing.T) {
	for _, l := range [][]int{{0}, {5}, {2, 1, 3}, {1, 4, 3}, {1, 3, 0}, append(repeated(3, maxTerms-1), 8)} {
		got, ok := impl.InvertAll(l, 10)
		checkNoList(t, fmt.Sprintf("InvertAll(%v, 10)", l), got, ok)
	}
}

func TestInvertAllInvalid(t *testing.T) {
	for _, m := range badModuli {
		for _, l := range [][]int{nil, {0}, {1, 1}} {
			got, ok := impl.InvertAll(l, m)
			checkNoList(t, fmt.Sprintf("InvertAll(%v, %d)", l, m), got, ok)
		}
	}
	for _, m := range []int{2, 7, maxModulus} {
		for _, l := range badLists(m) {
			got, ok := impl.InvertAll(l, m)
			checkNoList(t, fmt.Sprintf("InvertAll(%v, %d)", l, m), got, ok)
		}
	}
}

func checkPrime(t *testing.T, n int, want bool) {
	t.Helper()
	if got, ok := impl.IsPrime(n); got != want || !ok {
		t.Errorf("IsPrime(%d) = %v, %v; want %v, true", n, got, ok, want)
	}
}

func TestIsPrimeOfSmallNumbers(t *testing.T) {
	const top = 300000
	crossed := make([]bool, top)
	crossed[0], crossed[1] = true, true
	for d := 2; d < top; d++ {
		for n := 2 * d; n < top && !crossed[d]; n += d {
			crossed[n] = true
		}
	}
	for n, c := range crossed {
		checkPrime(t, n, !c)
	}
}

func TestIsPrimeOfLargeNumbers(t *testing.T) {
	for n := maxModulus - 1500; n <= maxModulus; n++ {
		checkPrime(t, n, !isComposite(n))
	}
	checkPrime(t, topPrime, true)
	checkPrime(t, maxModulus, false)
}

// TestIsPrimeOfPseudoprimes takes composite numbers that pass weaker tests: numbers of Carmichael, squares of primes, and strong pseudoprimes to the bases 2, 3 and 5 in common.
func TestIsPrimeOfPseudoprimes(t *testing.T) {
	for _, n := range []int{341, 561, 1105, 1729, 2047, 3277, 8911, 121, 1093 * 1093, 3511 * 3511, 44711 * 44711, 1373653, 1530787, 1987021, 25326001, 161304001, 960946321, 1157839381} {
		checkPrime(t, n, false)
	}
}

func TestIsPrimeInvalid(t *testing.T) {
	for _, n := range []int{math.MinInt, -maxModulus, -7, -2, -1, maxModulus + 1, 2147483647, 3215031751, 1 << 32, math.MaxInt} {
		if got, ok := impl.IsPrime(n); got || ok {
			t.Errorf("IsPrime(%d) = %v, %v; want false, false", n, got, ok)
		}
	}
}

func TestFactorOfExample(t *testing.T) {
	want := []impl.PrimePower{{Prime: 2, Exp: 2}, {Prime: 3, Exp: 1}}
	if got, ok := impl.FactorOf(12); !ok || !slices.Equal(got, want) {
		t.Errorf("FactorOf(12) = %v, %v", got, ok)
	}
}

// checkFactors fails unless the factors of n are powers of increasing primes with the product n.
func checkFactors(t *testing.T, n int) {
	t.Helper()
	got, ok := impl.FactorOf(n)
	if !ok {
		t.Errorf("FactorOf(%d) fails", n)
	}
	product, last := 1, 1
	for _, f := range got {
		if f.Prime <= last || f.Exp < 1 || isComposite(f.Prime) {
			t.Errorf("FactorOf(%d) = %v", n, got)
			return
		}
		last = f.Prime
		for range f.Exp {
			product *= f.Prime
		}
	}
	if product != n {
		t.Errorf("the product of FactorOf(%d) = %v is %d", n, got, product)
	}
}

func TestFactorOfSmallNumbers(t *testing.T) {
	for n := 1; n <= 30000; n++ {
		checkFactors(t, n)
	}
}

func TestFactorOfLargeNumbers(t *testing.T) {
	for n := maxModulus - 60; n <= maxModulus; n++ {
		checkFactors(t, n)
	}
	for _, n := range []int{1 << 30, 1162261467, 44711 * 44711, 44699 * 44711, 2 * 999999937, topPrime} {
		checkFactors(t, n)
	}
}

func TestFactorOfEdges(t *testing.T) {
	cases := map[int][]impl.PrimePower{
		1:          nil,
		2:          {{Prime: 2, Exp: 1}},
		maxModulus: {{Prime: 2, Exp: 10}, {Prime: 5, Exp: 9}},
		topPrime:   {{Prime: topPrime, Exp: 1}},
	}
	for n, want := range cases {
		if got, ok := impl.FactorOf(n); !ok || !slices.Equal(got, want) {
			t.Errorf("FactorOf(%d) = %v, %v; want %v, true", n, got, ok, want)
		}
	}
}

func TestFactorOfInvalid(t *testing.T) {
	for _, n := range []int{math.MinInt, -maxModulus, -12, -1, 0, maxModulus + 1, 1 << 32, math.MaxInt} {
		got, ok := impl.FactorOf(n)
		checkNoList(t, fmt.Sprintf("FactorOf(%d)", n), got, ok)
	}
}

func TestPrimitiveRootExamples(t *testing.T) {
	for p, want := range map[int]int{2: 1, 3: 2, 5: 2, 7: 3, 23: 5, 41: 6, 71: 7, 191: 19} {
		g, ok := impl.PrimitiveRoot(p)
		checkInt(t, fmt.Sprintf("PrimitiveRoot(%d)", p), want, g, ok)
	}
}

// orderOf returns the number of different powers of a residue other than 0 modulo a prime p, by multiplying.
func orderOf(g int, p int) int {
	order := 1
	for x := g; x != 1; x = x * g % p {
		order++
	}
	return order
}

func TestPrimitiveRootOfSmallPrimes(t *testing.T) {
	for _, p := range primesBelow(1500) {
		want := 1
		for orderOf(want, p) != p-1 {
			want++
		}
		g, ok := impl.PrimitiveRoot(p)
		checkInt(t, fmt.Sprintf("PrimitiveRoot(%d)", p), want, g, ok)
	}
}

func TestPrimitiveRootOfLargePrimes(t *testing.T) {
	for n := maxModulus - 1500; n <= maxModulus; n++ {
		if isComposite(n) {
			continue
		}
		divisors := primeDivisors(n - 1)
		tooSmall := func(g int) bool {
			return slices.ContainsFunc(divisors, func(d int) bool { return wantPower(g, (n-1)/d, n) == 1 })
		}
		want := 1
		for tooSmall(want) {
			want++
		}
		g, ok := impl.PrimitiveRoot(n)
		checkInt(t, fmt.Sprintf("PrimitiveRoot(%d)", n), want, g, ok)
	}
}

func TestPrimitiveRootInvalid(t *testing.T) {
	for _, p := range []int{math.MinInt, -maxModulus, -7, -2, -1, 0, 1, 4, 6, 9, 91, 341, 561, 44711 * 44711, maxModulus, maxModulus + 1, 2147483647, math.MaxInt} {
		g, ok := impl.PrimitiveRoot(p)
		checkNoInt(t, fmt.Sprintf("PrimitiveRoot(%d)", p), g, ok)
	}
}

func TestLegendreOfExample(t *testing.T) {
	s, ok := impl.LegendreOf(2, 7)
	checkInt(t, "LegendreOf(2, 7)", 1, s, ok)
}

func TestLegendreOfBySquaring(t *testing.T) {
	for _, p := range primesBelow(400)[1:] {
		want := repeated(-1, p)
		for x := range p {
			want[x*x%p] = 1
		}
		want[0] = 0
		for a := range p {
			s, ok := impl.LegendreOf(a, p)
			checkInt(t, fmt.Sprintf("LegendreOf(%d, %d)", a, p), want[a], s, ok)
		}
	}
}

func TestLegendreOfLargePrimes(t *testing.T) {
	for _, p := range []int{999999937, 1999999943, topPrime} {
		for _, a := range someResidues(p) {
			s, ok := impl.LegendreOf(a, p)
			checkInt(t, fmt.Sprintf("LegendreOf(%d, %d)", a, p), big.Jacobi(big.NewInt(int64(a)), big.NewInt(int64(p))), s, ok)
		}
	}
}

func TestLegendreOfZero(t *testing.T) {
	for _, p := range []int{3, 7, topPrime} {
		s, ok := impl.LegendreOf(0, p)
		checkInt(t, fmt.Sprintf("LegendreOf(0, %d)", p), 0, s, ok)
	}
}

func TestLegendreOfInvalid(t *testing.T) {
	for _, p := range append([]int{2, 4, 9, 15, 91, 341, 561, 44711 * 44711, maxModulus, 2147483647}, badModuli...) {
		for _, a := range []int{0, 1, 2} {
			s, ok := impl.LegendreOf(a, p)
			checkNoInt(t, fmt.Sprintf("LegendreOf(%d, %d)", a, p), s, ok)
		}
	}
	for _, p := range []int{3, 7, 97, topPrime} {
		for _, a := range notResidues(p) {
			s, ok := impl.LegendreOf(a, p)
			checkNoInt(t, fmt.Sprintf("LegendreOf(%d, %d)", a, p), s, ok)
		}
	}
}
