package tests

import (
	"math"
	"slices"
	"testing"

	"loop.example/g00878/impl"
)

// Promise 6 for invalid arguments, for which each function returns zero values.

// elgamalArgs are arguments for all functions of chapter 6. exps are the coins of ReencryptAll, too.
type elgamalArgs struct {
	gr     impl.Group
	key    int
	secret int
	m      int
	v      int
	r      int
	e      int
	most   int
	c      impl.Cipher
	l      []impl.Cipher
	exps   []int
}

// elgamalCalls returns all functions of chapter 6. All of them take a group.
func elgamalCalls() []tableCall[elgamalArgs] {
	return []tableCall[elgamalArgs]{
		{"KeyOf", []string{"secret"}, func(a elgamalArgs) outcome { return outcomeOf(impl.KeyOf(a.gr, a.secret)) }},
		{"IsValidCipher", []string{"c"}, func(a elgamalArgs) outcome { return outcomeOf(0, impl.IsValidCipher(a.gr, a.c)) }},
		{"EncryptElement", []string{"key", "m", "r"}, func(a elgamalArgs) outcome { return outcomeOf(impl.EncryptElement(a.gr, a.key, a.m, a.r)) }},
		{"EncryptExp", []string{"key", "v", "r"}, func(a elgamalArgs) outcome { return outcomeOf(impl.EncryptExp(a.gr, a.key, a.v, a.r)) }},
		{"Reencrypt", []string{"key", "c", "r"}, func(a elgamalArgs) outcome { return outcomeOf(impl.Reencrypt(a.gr, a.key, a.c, a.r)) }},
		{"ReencryptAll", []string{"key", "l", "exps"}, func(a elgamalArgs) outcome { return outcomeOf(impl.ReencryptAll(a.gr, a.key, a.l, a.exps)) }},
		{"MulCiphers", []string{"l"}, func(a elgamalArgs) outcome { return outcomeOf(impl.MulCiphers(a.gr, a.l)) }},
		{"PowCipher", []string{"c", "e"}, func(a elgamalArgs) outcome { return outcomeOf(impl.PowCipher(a.gr, a.c, a.e)) }},
		{"WeightedProduct", []string{"l", "exps"}, func(a elgamalArgs) outcome { return outcomeOf(impl.WeightedProduct(a.gr, a.l, a.exps)) }},
		{"DecryptElement", []string{"secret", "c"}, func(a elgamalArgs) outcome { return outcomeOf(impl.DecryptElement(a.gr, a.secret, a.c)) }},
		{"DecryptExp", []string{"secret", "c", "most"}, func(a elgamalArgs) outcome { return outcomeOf(impl.DecryptExp(a.gr, a.secret, a.c, a.most)) }},
		{"CipherSum", []string{"l"}, func(a elgamalArgs) outcome { return outcomeOf(impl.CipherSum(a.gr, a.l)) }},
	}
}

// ordinaryArgs returns valid arguments of a group, for which all functions succeed. The ciphertext is the encryption of G with the coin 1.
func ordinaryArgs(gr impl.Group) elgamalArgs {
	c := impl.Cipher{A: gr.G, B: gr.G * gr.G % gr.P}
	return elgamalArgs{gr: gr, key: gr.G, secret: 1, m: gr.G, v: 1, r: 1, e: 1, most: 1, c: c, l: []impl.Cipher{c, {A: 1, B: 1}, {A: gr.G, B: 1}}, exps: []int{1, 0, gr.Q - 1}}
}

// neutralArgs returns arguments that are valid in all groups, for which all functions but CipherSum succeed.
func neutralArgs(gr impl.Group) elgamalArgs {
	return elgamalArgs{gr: gr, key: 1, m: 1, c: impl.Cipher{A: 1, B: 1}}
}

// badCiphers returns ciphertexts that are not valid: at least one component is no element.
func badCiphers(gr impl.Group) []impl.Cipher {
	var bad []impl.Cipher
	for _, x := range notElements(gr) {
		for _, y := range []int{1, gr.G} {
			bad = append(bad, impl.Cipher{A: x, B: y}, impl.Cipher{A: y, B: x}, impl.Cipher{A: x, B: x})
		}
	}
	return bad
}

// badCipherLists returns lists that no function takes: one bad ciphertext at the start, in the middle or at the end, or too many ciphertexts.
func badCipherLists(gr impl.Group) [][]impl.Cipher {
	one, two := impl.Cipher{A: 1, B: 1}, impl.Cipher{A: gr.G, B: 1}
	bad := [][]impl.Cipher{slices.Repeat([]impl.Cipher{one}, maxList+1), slices.Repeat([]impl.Cipher{two}, maxList+1), slices.Repeat([]impl.Cipher{{}}, maxList+1), slices.Repeat([]impl.Cipher{one}, 1000)}
	for _, c := range badCiphers(gr) {
		bad = append(bad, []impl.Cipher{c}, []impl.Cipher{c, one, two}, []impl.Cipher{one, c, two}, []impl.Cipher{two, one, c}, append(slices.Repeat([]impl.Cipher{two}, maxList-1), c))
	}
	return bad
}

// badExponentLists returns lists that are not one exponent for each of n ciphertexts: one bad exponent at the start, in the middle or at the end, or other numbers of exponents.
func badExponentLists(gr impl.Group, n int) [][]int {
	var bad [][]int
	for _, length := range []int{0, 1, n - 1, n + 1, maxList, maxList + 1, 1000} {
		if length >= 0 && length != n {
			bad = append(bad, repeated(0, length), repeated(1, length))
		}
	}
	for _, e := range notExponents(gr) {
		for i := range n {
			l := repeated(1, n)
			l[i] = e
			bad = append(bad, l)
		}
	}
	return bad
}

// elgamalStarts are the valid arguments that the tests give a fault.
func elgamalStarts() []elgamalArgs {
	var starts []elgamalArgs
	for _, gr := range allGroups() {
		starts = append(starts, ordinaryArgs(gr), neutralArgs(gr))
	}
	return starts
}

// TestElGamalAccepts shows that the arguments are refused for their faults alone.
func TestElGamalAccepts(t *testing.T) {
	for _, a := range elgamalStarts() {
		for _, f := range elgamalCalls() {
			wants := f.name != "CipherSum" || len(a.l) > 0
			if got := f.call(a); got.ok != wants {
				t.Errorf("%s of %+v = %v, %v", f.name, a, got.text, got.ok)
			}
		}
	}
}

func TestElGamalOfBadGroups(t *testing.T) {
	for _, gr := range badGroups {
		a := neutralArgs(gr)
		checkRefused(t, elgamalCalls(), "", a)
		a.l, a.exps = ciphersOf(1, 1), []int{0}
		checkRefused(t, elgamalCalls(), "", a)
		a.l, a.exps = ciphersOf(2, 4, 4, 2), []int{1, 1}
		a.key, a.m, a.c, a.secret, a.r, a.e, a.v, a.most = 2, 4, impl.Cipher{A: 4, B: 2}, 1, 1, 1, 1, 10
		checkRefused(t, elgamalCalls(), "", a)
	}
}

// TestElGamalOfOtherGroups takes elements of another group with the same P, and exponents of one with a greater Q.
func TestElGamalOfOtherGroups(t *testing.T) {
	least := impl.Group{P: 23, Q: 2, G: 22}
	a := ordinaryArgs(exampleGroup)
	a.gr = least
	for _, use := range []string{"key", "m", "c", "l"} {
		checkRefused(t, elgamalCalls(), use, a)
	}
	b := ordinaryArgs(least)
	b.secret, b.v, b.r, b.e, b.exps = 2, 2, 2, 2, []int{1, 10, 1}
	for _, use := range []string{"secret", "v", "r", "e", "exps"} {
		checkRefused(t, elgamalCalls(), use, b)
	}
}

func TestElGamalOfBadKeysAndMessages(t *testing.T) {
	for _, a := range elgamalStarts() {
		for _, x := range notElements(a.gr) {
			bad := a
			bad.key = x
			checkRefused(t, elgamalCalls(), "key", bad)
			bad = a
			bad.m = x
			checkRefused(t, elgamalCalls(), "m", bad)
		}
	}
}

func TestElGamalOfBadExponents(t *testing.T) {
	for _, a := range elgamalStarts() {
		for _, e := range notExponents(a.gr) {
			bad := a
			bad.secret, bad.v, bad.e = e, e, e
			for _, use := range []string{"secret", "v", "e"} {
				checkRefused(t, elgamalCalls(), use, bad)
			}
			bad = a
			bad.r = e
			checkRefused(t, elgamalCalls(), "r", bad)
		}
	}
}

func TestElGamalOfBadCiphers(t *testing.T) {
	for _, a := range elgamalStarts() {
		for _, c := range badCiphers(a.gr) {
			bad := a
			bad.c = c
			checkRefused(t, elgamalCalls(), "c", bad)
		}
		for _, l := range badCipherLists(a.gr) {
			bad := a
			bad.l, bad.exps = l, repeated(1, len(l))
			checkRefused(t, elgamalCalls(), "l", bad)
			bad.exps = repeated(0, len(l))
			checkRefused(t, elgamalCalls(), "l", bad)
		}
	}
}

func TestElGamalOfBadExponentLists(t *testing.T) {
	for _, a := range elgamalStarts() {
		for _, l := range cipherLists(a.gr) {
			for _, exps := range badExponentLists(a.gr, len(l)) {
				bad := a
				bad.l, bad.exps = l, exps
				checkRefused(t, elgamalCalls(), "exps", bad)
			}
		}
	}
}

func TestDecryptExpOfBadLimits(t *testing.T) {
	for _, a := range elgamalStarts() {
		for _, most := range []int{math.MinInt, -maxLog, -1, maxLog + 1, 1 << 32, math.MaxInt} {
			bad := a
			bad.most = most
			checkRefused(t, elgamalCalls(), "most", bad)
		}
	}
}
