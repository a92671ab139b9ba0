package impl

// MaxModulus is the maximum modulus.
const MaxModulus = 2000000000

// MaxTerms is the maximum number of elements of a list of residues.
const MaxTerms = 200

// PrimePower is a power of a prime.
type PrimePower struct {
	Prime int
	Exp   int
}

// InverseMod returns the residue x for which a x - 1 is divisible by m, for a residue a.
func InverseMod(a int, m int) (int, bool) {
	if !isResidue(a, m) {
		return 0, false
	}
	return invert(a, m)
}

// PowerMod returns the residue of the e-th power of a residue a, for e in 0..MaxModulus.
func PowerMod(a int, e int, m int) (int, bool) {
	if !isResidue(a, m) || e < 0 || e > MaxModulus {
		return 0, false
	}
	return raise(a, e, m), true
}

// SumMod returns the residue of the sum of a list of residues, which is 0 for the empty list.
func SumMod(l []int, m int) (int, bool) {
	if !areResidues(l, m) {
		return 0, false
	}
	add := func(sum int, x int) int { return (sum + x) % m }
	return fold(0, add, l...), true
}

// DotMod returns the residue of the sum of the products of the elements of two lists of residues of equal length.
func DotMod(a []int, b []int, m int) (int, bool) {
	if len(a) != len(b) || !areResidues(a, m) || !areResidues(b, m) {
		return 0, false
	}
	// Reducing after each product keeps the sum within 64 bits.
	addProduct := func(sum int, p intPair) int { return (sum + p.x*p.y) % m }
	return fold(0, addProduct, pairsOf(a, b)...), true
}

// InvertAll returns the inverses of all elements of a list of residues.
func InvertAll(l []int, m int) ([]int, bool) {
	if !areResidues(l, m) {
		return nil, false
	}
	inverses := make([]int, len(l))
	for i, a := range l {
		x, ok := invert(a, m)
		if !ok {
			return nil, false
		}
		inverses[i] = x
	}
	return inverses, true
}

// IsPrime reports whether n is a prime, for n in 0..MaxModulus.
func IsPrime(n int) (bool, bool) {
	if n < 0 || n > MaxModulus {
		return false, false
	}
	return isPrime(n), true
}

// FactorOf returns the factorisation of n in 1..MaxModulus into powers of primes, with increasing primes and positive exponents; it is empty for 1.
func FactorOf(n int) ([]PrimePower, bool) {
	if n < 1 || n > MaxModulus {
		return nil, false
	}
	return factorsOf(n), true
}

// PrimitiveRoot returns the least positive residue whose powers are all residues other than 0 modulo a prime p.
func PrimitiveRoot(p int) (int, bool) {
	if !isPrime(p) {
		return 0, false
	}
	factors := factorsOf(p - 1)
	for g := 1; g < p; g++ {
		if hasFullOrder(g, p, factors) {
			return g, true
		}
	}
	return 0, false
}

// LegendreOf returns 0 if the residue a is 0, 1 if it is another square modulo the odd prime p, and -1 otherwise.
func LegendreOf(a int, p int) (int, bool) {
	if !isPrime(p) || p == 2 || !isResidue(a, p) {
		return 0, false
	}
	// By Euler's criterion this power is 0, 1 or p - 1.
	power := raise(a, (p-1)/2, p)
	if power == p-1 {
		return -1, true
	}
	return power, true
}

// intPair is one term of a sum of products.
type intPair struct {
	x int
	y int
}

// pairsOf returns the pairs of elements at the same index of two lists of equal length.
func pairsOf(a []int, b []int) []intPair {
	pairs := make([]intPair, len(a))
	for i := range a {
		pairs[i] = intPair{a[i], b[i]}
	}
	return pairs
}

// fold combines start with the terms from the left. It is generic so that lists of numbers, of pairs and of ciphertexts are reduced by the same loop.
func fold[R any, T any](start R, step func(R, T) R, terms ...T) R {
	result := start
	for _, term := range terms {
		result = step(result, term)
	}
	return result
}

// isModulus reports whether m is a permitted modulus.
func isModulus(m int) bool {
	return 2 <= m && m <= MaxModulus
}

// isResidue reports whether m is a permitted modulus and a is a residue modulo m.
func isResidue(a int, m int) bool {
	return isModulus(m) && 0 <= a && a < m
}

// areResidues reports whether m is a permitted modulus and l is a list of residues modulo m that is not too long.
func areResidues(l []int, m int) bool {
	if !isModulus(m) || len(l) > MaxTerms {
		return false
	}
	for _, a := range l {
		if !isResidue(a, m) {
			return false
		}
	}
	return true
}

// invert returns the inverse of a residue a modulo m and whether there is one, by the extended Euclidean algorithm.
func invert(a int, m int) (int, bool) {
	// Throughout, r - a x and nextR - a nextX are divisible by m.
	r, nextR := m, a
	x, nextX := 0, 1
	for nextR != 0 {
		quotient := r / nextR
		r, nextR = nextR, r-quotient*nextR
		x, nextX = nextX, x-quotient*nextX
	}
	if r != 1 {
		return 0, false
	}
	if x < 0 {
		x += m
	}
	return x, true
}

// raise returns the residue of the e-th power of a residue a modulo m, for e of at least 0.
func raise(a int, e int, m int) int {
	result := 1
	for square := a; e > 0; e /= 2 {
		if e%2 == 1 {
			result = result * square % m
		}
		square = square * square % m
	}
	return result
}

// isPrime reports whether n is a prime that is a permitted modulus.
func isPrime(n int) bool {
	return isModulus(n) && passesAllBases(n)
}

// passesAllBases is the Miller-Rabin test of n in 2..MaxModulus. It is exact: the least composite number that passes for the bases 2, 3, 5 and 7 is 3215031751. Trial division would be too slow for the layers that check the primes of a group at each call.
func passesAllBases(n int) bool {
	for _, base := range [...]int{2, 3, 5, 7} {
		if n%base == 0 {
			return n == base
		}
		if !passesBase(n, base) {
			return false
		}
	}
	return true
}

// passesBase reports whether an odd n above 2 could be a prime, judged by the powers of a base that n does not divide.
func passesBase(n int, base int) bool {
	e := n - 1
	for e%2 == 0 {
		e /= 2
	}
	power := raise(base, e, n)
	if power == 1 {
		return true
	}
	for ; e < n-1; e *= 2 {
		if power == n-1 {
			return true
		}
		power = power * power % n
	}
	return false
}

// factorsOf returns the factorisation of n in 1..MaxModulus by trial division.
func factorsOf(n int) []PrimePower {
	var factors []PrimePower
	for d := 2; d*d <= n; d++ {
		exp := 0
		for ; n%d == 0; n /= d {
			exp++
		}
		if exp > 0 {
			factors = append(factors, PrimePower{Prime: d, Exp: exp})
		}
	}
	if n > 1 {
		factors = append(factors, PrimePower{Prime: n, Exp: 1})
	}
	return factors
}

// hasFullOrder reports whether the powers of g are all residues other than 0 modulo a prime p, given the factorisation of p - 1.
func hasFullOrder(g int, p int, factors []PrimePower) bool {
	for _, f := range factors {
		if raise(g, (p-1)/f.Prime, p) == 1 {
			return false
		}
	}
	return true
}
