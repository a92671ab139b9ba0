package tests

import (
	"fmt"
	"slices"
	"testing"

	"loop.example/g00878/impl"
)

// Promise 6: decryption inverts encryption, re-encryption keeps messages, and products decrypt to products.
// The expected ciphertexts and messages are products of powers by big integers.

// exampleKey is the key of exampleSecret in exampleGroup.
const (
	exampleSecret = 3
	exampleKey    = 8
)

// exampleCipher is the encryption of 3 with the coin 2 in exampleGroup.
var exampleCipher = impl.Cipher{A: 4, B: 8}

// wantEncrypted returns the encryption of m.
func wantEncrypted(gr impl.Group, key int, m int, r int) impl.Cipher {
	return impl.Cipher{A: wantPower(gr.G, r, gr.P), B: wantProduct(gr, []int{m, key}, []int{1, r})}
}

// wantDecrypted returns the message of a ciphertext. The power with Q - secret is the inverse of the one with the secret.
func wantDecrypted(gr impl.Group, secret int, c impl.Cipher) int {
	return wantProduct(gr, []int{c.B, c.A}, []int{1, gr.Q - secret})
}

// wantWeighted returns the product of powers of ciphertexts.
func wantWeighted(gr impl.Group, l []impl.Cipher, exps []int) impl.Cipher {
	as, bs := make([]int, len(l)), make([]int, len(l))
	for i, c := range l {
		as[i], bs[i] = c.A, c.B
	}
	return impl.Cipher{A: wantProduct(gr, as, exps), B: wantProduct(gr, bs, exps)}
}

// wantReencrypted returns the re-encryption of a ciphertext.
func wantReencrypted(gr impl.Group, key int, c impl.Cipher, r int) impl.Cipher {
	return wantWeighted(gr, []impl.Cipher{c, wantEncrypted(gr, key, 1, r)}, []int{1, 1})
}

// cipherLists returns lists of valid ciphertexts of several lengths, up to MaxList.
func cipherLists(gr impl.Group) [][]impl.Cipher {
	some := ciphersOf(someElements(gr)...)
	ones, twice := ciphersOf(repeated(1, 2*maxList)...), ciphersOf(repeated(gr.G, 2*maxList)...)
	return [][]impl.Cipher{nil, {}, ones[:1], ciphersOf(gr.G, 1), ciphersOf(1, gr.G), some[:1], some[1:3], some[2:5], some[3 : 2+maxList], some[:maxList], some[len(some)-maxList:], ones, twice}
}

// ciphersIn returns valid ciphertexts: all pairs of some elements.
func ciphersIn(gr impl.Group) []impl.Cipher {
	elements := someElements(gr)[:7]
	var l []impl.Cipher
	for _, a := range elements {
		for _, b := range elements {
			l = append(l, impl.Cipher{A: a, B: b})
		}
	}
	return l
}

// someExponents returns exponents of a group: 0, 1, the greatest and others.
func someExponents(gr impl.Group) []int {
	return firstOf(gr.Q, 7)
}

// checkCipher fails unless a call returned the wanted ciphertext and true.
func checkCipher(t *testing.T, name string, want impl.Cipher, got impl.Cipher, ok bool) {
	t.Helper()
	if !ok || got != want {
		t.Errorf("%s = %v, %v; want %v, true", name, got, ok, want)
	}
}

// checkCiphers fails unless a call returned the wanted ciphertexts and true.
func checkCiphers(t *testing.T, name string, want []impl.Cipher, got []impl.Cipher, ok bool) {
	t.Helper()
	if !ok || !slices.Equal(got, want) {
		t.Errorf("%s = %v, %v; want %v, true", name, got, ok, want)
	}
}

// mustKey returns the key of a secret.
func mustKey(t *testing.T, gr impl.Group, secret int) int {
	t.Helper()
	key, ok := impl.KeyOf(gr, secret)
	if !ok {
		t.Fatalf("KeyOf(%v, %d) fails", gr, secret)
	}
	return key
}

func TestKeyOfExamples(t *testing.T) {
	for secret, want := range []int{1, 2, 4, exampleKey, 16, 9, 18, 13, 3, 6, 12} {
		key, ok := impl.KeyOf(exampleGroup, secret)
		checkInt(t, fmt.Sprintf("KeyOf %d", secret), want, key, ok)
	}
}

func TestKeyOf(t *testing.T) {
	for _, gr := range allGroups() {
		secrets := someResidues(gr.Q)
		if gr.Q < 50 {
			secrets = counting(gr.Q)
		}
		for _, secret := range secrets {
			key, ok := impl.KeyOf(gr, secret)
			checkInt(t, fmt.Sprintf("KeyOf(%v, %d)", gr, secret), wantPower(gr.G, secret, gr.P), key, ok)
			checkElement(t, gr, key, true)
		}
	}
}

// TestIsValidCipherOfSmallGroups takes all pairs of integers in a range.
func TestIsValidCipherOfSmallGroups(t *testing.T) {
	for _, gr := range smallGroups() {
		if gr.P > 29 {
			continue
		}
		elements := elementsIn(gr)
		for a := -2; a < gr.P+3; a++ {
			for b := -2; b < gr.P+3; b++ {
				want := slices.Contains(elements, a) && slices.Contains(elements, b)
				if got := impl.IsValidCipher(gr, impl.Cipher{A: a, B: b}); got != want {
					t.Errorf("IsValidCipher(%v, (%d, %d)) = %v", gr, a, b, got)
				}
			}
		}
	}
}

func TestIsValidCipherOfAllGroups(t *testing.T) {
	for _, gr := range allGroups() {
		for _, c := range ciphersIn(gr) {
			if !impl.IsValidCipher(gr, c) {
				t.Errorf("IsValidCipher(%v, %v) = false", gr, c)
			}
		}
		for _, c := range badCiphers(gr) {
			if impl.IsValidCipher(gr, c) {
				t.Errorf("IsValidCipher(%v, %v) = true", gr, c)
			}
		}
	}
}

func TestEncryptElementExamples(t *testing.T) {
	least := impl.Group{P: 3, Q: 2, G: 2}
	for _, c := range []struct {
		gr        impl.Group
		key, m, r int
		want      impl.Cipher
	}{
		{exampleGroup, exampleKey, 3, 2, exampleCipher},
		{exampleGroup, exampleKey, 1, 0, impl.Cipher{A: 1, B: 1}},
		{exampleGroup, exampleKey, 3, 0, impl.Cipher{A: 1, B: 3}},
		{exampleGroup, exampleKey, 1, 1, impl.Cipher{A: 2, B: exampleKey}},
		{exampleGroup, exampleKey, 3, 10, impl.Cipher{A: 12, B: 9}},
		{exampleGroup, 1, 3, 2, impl.Cipher{A: 4, B: 3}},
		{least, 1, 1, 0, impl.Cipher{A: 1, B: 1}}, {least, 1, 2, 1, impl.Cipher{A: 2, B: 2}}, {least, 2, 2, 1, impl.Cipher{A: 2, B: 1}}, {least, 2, 1, 1, impl.Cipher{A: 2, B: 2}},
	} {
		got, ok := impl.EncryptElement(c.gr, c.key, c.m, c.r)
		checkCipher(t, fmt.Sprintf("EncryptElement(%v, %d, %d, %d)", c.gr, c.key, c.m, c.r), c.want, got, ok)
	}
}

func TestEncryptExpExamples(t *testing.T) {
	for _, c := range []struct {
		key, v, r int
		want      impl.Cipher
	}{
		{exampleKey, 8, 2, exampleCipher}, {exampleKey, 0, 0, impl.Cipher{A: 1, B: 1}}, {exampleKey, 1, 0, impl.Cipher{A: 1, B: 2}}, {exampleKey, 0, 1, impl.Cipher{A: 2, B: 8}}, {1, 8, 2, impl.Cipher{A: 4, B: 3}}, {exampleKey, 10, 10, impl.Cipher{A: 12, B: 13}},
	} {
		got, ok := impl.EncryptExp(exampleGroup, c.key, c.v, c.r)
		checkCipher(t, fmt.Sprintf("EncryptExp(%d, %d, %d)", c.key, c.v, c.r), c.want, got, ok)
	}
}

// checkEncryption encrypts the power of G with v, decrypts it, and searches for v if this can be found.
func checkEncryption(t *testing.T, gr impl.Group, secret int, v int, r int) {
	t.Helper()
	name := fmt.Sprintf("in %v with the secret %d and the coin %d: ", gr, secret, r)
	key, m := mustKey(t, gr, secret), wantPower(gr.G, v, gr.P)
	want := wantEncrypted(gr, key, m, r)
	c, ok := impl.EncryptElement(gr, key, m, r)
	checkCipher(t, fmt.Sprint(name, "EncryptElement of ", m), want, c, ok)
	d, ok := impl.EncryptExp(gr, key, v, r)
	checkCipher(t, fmt.Sprint(name, "EncryptExp of ", v), want, d, ok)
	if !impl.IsValidCipher(gr, c) {
		t.Errorf("%sthe encryption %v of %d is not valid", name, c, m)
	}
	got, ok := impl.DecryptElement(gr, secret, c)
	checkInt(t, fmt.Sprint(name, "DecryptElement of ", c), m, got, ok)
	if v <= maxLog {
		got, ok = impl.DecryptExp(gr, secret, d, v)
		checkInt(t, fmt.Sprint(name, "DecryptExp of ", d), v, got, ok)
	}
}

// TestEncryptionOfSmallGroups takes all secrets, messages and coins of groups with at most 13 elements.
func TestEncryptionOfSmallGroups(t *testing.T) {
	for _, gr := range smallGroups() {
		if gr.Q > 13 {
			continue
		}
		for secret := range gr.Q {
			for v := range gr.Q {
				for r := range gr.Q {
					checkEncryption(t, gr, secret, v, r)
				}
			}
		}
	}
}

func TestEncryptionOfAllGroups(t *testing.T) {
	for _, gr := range allGroups() {
		for _, secret := range someExponents(gr) {
			for _, v := range someExponents(gr) {
				for _, r := range someExponents(gr) {
					checkEncryption(t, gr, secret, v, r)
				}
			}
		}
	}
}

func TestDecryptElementExamples(t *testing.T) {
	for _, c := range []struct {
		secret int
		c      impl.Cipher
		want   int
	}{
		{exampleSecret, exampleCipher, 3}, {0, exampleCipher, 8}, {exampleSecret, impl.Cipher{A: 1, B: 1}, 1}, {10, impl.Cipher{A: 2, B: 1}, 2}, {exampleSecret, impl.Cipher{A: 13, B: 16}, 9}, {exampleSecret, impl.Cipher{A: 1, B: 18}, 18},
	} {
		got, ok := impl.DecryptElement(exampleGroup, c.secret, c.c)
		checkInt(t, fmt.Sprintf("DecryptElement(%d, %v)", c.secret, c.c), c.want, got, ok)
	}
}

// TestDecryptElementWithAnySecret shows that a ciphertext belongs to no key: every valid one has a message for every secret.
func TestDecryptElementWithAnySecret(t *testing.T) {
	for _, gr := range allGroups() {
		for _, c := range ciphersIn(gr) {
			for _, secret := range someExponents(gr) {
				got, ok := impl.DecryptElement(gr, secret, c)
				checkInt(t, fmt.Sprintf("DecryptElement(%v, %d, %v)", gr, secret, c), wantDecrypted(gr, secret, c), got, ok)
			}
		}
	}
}

func TestDecryptExpExamples(t *testing.T) {
	for _, c := range []struct {
		c    impl.Cipher
		most int
		want int
	}{
		{exampleCipher, 10, 8}, {exampleCipher, 8, 8}, {exampleCipher, maxLog, 8}, {impl.Cipher{A: 1, B: 1}, 0, 0}, {impl.Cipher{A: 2, B: 8}, 0, 0}, {impl.Cipher{A: 2, B: 8}, maxLog, 0},
	} {
		got, ok := impl.DecryptExp(exampleGroup, exampleSecret, c.c, c.most)
		checkInt(t, fmt.Sprintf("DecryptExp(%v, %d)", c.c, c.most), c.want, got, ok)
	}
	for _, most := range []int{0, 1, 7} {
		got, ok := impl.DecryptExp(exampleGroup, exampleSecret, exampleCipher, most)
		checkNoInt(t, fmt.Sprintf("DecryptExp(%v, %d)", exampleCipher, most), got, ok)
	}
}

// checkFound searches for the message v of a ciphertext up to v, just below it and up to the greatest limit.
func checkFound(t *testing.T, gr impl.Group, v int) {
	t.Helper()
	for _, secret := range someExponents(gr)[:4] {
		c := wantEncrypted(gr, wantPower(gr.G, secret, gr.P), wantPower(gr.G, v, gr.P), gr.Q/3+1)
		name := fmt.Sprintf("DecryptExp(%v, %d, %v) for the message %d", gr, secret, c, v)
		for _, most := range []int{v, min(v+1, maxLog), maxLog} {
			got, ok := impl.DecryptExp(gr, secret, c, most)
			checkInt(t, name, v, got, ok)
		}
		for _, most := range []int{v - 1, v / 2} {
			if most < v {
				got, ok := impl.DecryptExp(gr, secret, c, most)
				checkNoInt(t, name, got, ok)
			}
		}
	}
}

func TestDecryptExpAtLimits(t *testing.T) {
	for _, gr := range allGroups() {
		for _, v := range []int{0, 1, 2, 3, 10, 22, gr.Q - 1, 5000, maxLog - 1, maxLog} {
			if v < min(gr.Q, maxLog+1) {
				checkFound(t, gr, v)
			}
		}
	}
}

// TestDecryptExpOfGreatMessages takes messages above MaxLog, which no search finds.
func TestDecryptExpOfGreatMessages(t *testing.T) {
	for _, gr := range []impl.Group{topGroup, largeGroups[2], largeGroups[4]} {
		key := mustKey(t, gr, 12345)
		for _, v := range []int{maxLog + 1, gr.Q - 1} {
			c, ok := impl.EncryptExp(gr, key, v, 678)
			checkCipher(t, fmt.Sprintf("EncryptExp(%v, %d, %d, 678)", gr, key, v), wantEncrypted(gr, key, wantPower(gr.G, v, gr.P), 678), c, ok)
			for _, most := range []int{0, maxLog, maxLog + 1} {
				got, ok := impl.DecryptExp(gr, 12345, c, most)
				checkNoInt(t, fmt.Sprintf("DecryptExp(%v, 12345, %v, %d)", gr, c, most), got, ok)
			}
		}
	}
}

func TestReencryptExamples(t *testing.T) {
	for _, c := range []struct {
		key, r int
		want   impl.Cipher
	}{
		{exampleKey, 1, impl.Cipher{A: 8, B: 18}}, {exampleKey, 0, exampleCipher}, {exampleKey, 10, impl.Cipher{A: 2, B: 1}}, {1, 1, impl.Cipher{A: 8, B: 8}}, {1, 0, exampleCipher},
	} {
		got, ok := impl.Reencrypt(exampleGroup, c.key, exampleCipher, c.r)
		checkCipher(t, fmt.Sprintf("Reencrypt(%d, %v, %d)", c.key, exampleCipher, c.r), c.want, got, ok)
	}
}

// checkReencrypted re-encrypts a ciphertext and compares the messages.
func checkReencrypted(t *testing.T, gr impl.Group, secret int, c impl.Cipher, r int) {
	t.Helper()
	key := wantPower(gr.G, secret, gr.P)
	name := fmt.Sprintf("Reencrypt(%v, %d, %v, %d)", gr, key, c, r)
	d, ok := impl.Reencrypt(gr, key, c, r)
	checkCipher(t, name, wantReencrypted(gr, key, c, r), d, ok)
	m, ok := impl.DecryptElement(gr, secret, d)
	checkInt(t, "the message of "+name, wantDecrypted(gr, secret, c), m, ok)
}

// TestReencryptSmallGroups takes all ciphertexts, secrets and coins of groups with at most 5 elements.
func TestReencryptSmallGroups(t *testing.T) {
	for _, gr := range smallGroups() {
		if gr.Q > 5 {
			continue
		}
		for _, a := range elementsIn(gr) {
			for _, b := range elementsIn(gr) {
				for secret := range gr.Q {
					for r := range gr.Q {
						checkReencrypted(t, gr, secret, impl.Cipher{A: a, B: b}, r)
					}
				}
			}
		}
	}
}

func TestReencryptAllGroups(t *testing.T) {
	for _, gr := range allGroups() {
		for _, c := range ciphersIn(gr) {
			for _, secret := range someExponents(gr)[:5] {
				for _, r := range someExponents(gr)[:5] {
					checkReencrypted(t, gr, secret, c, r)
				}
			}
		}
	}
}

// TestReencryptTwice adds the coins: re-encryption of an encryption is the encryption with the sum.
func TestReencryptTwice(t *testing.T) {
	for _, gr := range allGroups() {
		key := wantPower(gr.G, gr.Q/2+1, gr.P)
		for _, m := range someElements(gr)[:5] {
			for _, r := range someExponents(gr) {
				for _, s := range someExponents(gr) {
					first, _ := impl.EncryptElement(gr, key, m, r)
					second, ok := impl.Reencrypt(gr, key, first, s)
					want, _ := impl.EncryptElement(gr, key, m, (r+s)%gr.Q)
					checkCipher(t, fmt.Sprintf("Reencrypt(%v, %d, %v, %d)", gr, key, first, s), want, second, ok)
				}
			}
		}
	}
}

func TestReencryptAllExamples(t *testing.T) {
	l := []impl.Cipher{exampleCipher, {A: 1, B: 1}, exampleCipher}
	got, ok := impl.ReencryptAll(exampleGroup, exampleKey, l, []int{1, 2, 0})
	checkCiphers(t, "ReencryptAll of three ciphertexts", []impl.Cipher{{A: 8, B: 18}, {A: 4, B: 18}, exampleCipher}, got, ok)
	for _, none := range [][]impl.Cipher{nil, {}} {
		got, ok = impl.ReencryptAll(exampleGroup, exampleKey, none, nil)
		checkCiphers(t, "ReencryptAll of no ciphertexts", nil, got, ok)
	}
}

func TestReencryptAllOfLists(t *testing.T) {
	for _, gr := range allGroups() {
		for _, key := range someElements(gr)[:4] {
			for _, l := range cipherLists(gr) {
				for _, rs := range exponentLists(gr, len(l)) {
					want := make([]impl.Cipher, len(l))
					for i, c := range l {
						want[i] = wantReencrypted(gr, key, c, rs[i])
					}
					got, ok := impl.ReencryptAll(gr, key, l, rs)
					checkCiphers(t, fmt.Sprintf("ReencryptAll(%v, %d, %v, %v)", gr, key, l, rs), want, got, ok)
				}
			}
		}
	}
}

// TestReencryptAllIsSingle compares a list with single calls.
func TestReencryptAllIsSingle(t *testing.T) {
	for _, gr := range allGroups() {
		for _, l := range cipherLists(gr) {
			rs := exponentLists(gr, len(l))[4]
			got, ok := impl.ReencryptAll(gr, gr.G, l, rs)
			want := make([]impl.Cipher, len(l))
			for i, c := range l {
				want[i], _ = impl.Reencrypt(gr, gr.G, c, rs[i])
			}
			checkCiphers(t, fmt.Sprintf("ReencryptAll(%v, %d, %v, %v)", gr, gr.G, l, rs), want, got, ok)
		}
	}
}
