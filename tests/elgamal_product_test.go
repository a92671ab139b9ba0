package tests

import (
	"fmt"
	"testing"

	"loop.example/g00878/impl"
)

// Promise 6 for products and powers of ciphertexts: products decrypt to products.

// messagesOf returns the messages of ciphertexts.
func messagesOf(t *testing.T, gr impl.Group, secret int, l []impl.Cipher) []int {
	t.Helper()
	messages := make([]int, len(l))
	for i, c := range l {
		m, ok := impl.DecryptElement(gr, secret, c)
		checkInt(t, fmt.Sprintf("DecryptElement(%v, %d, %v)", gr, secret, c), wantDecrypted(gr, secret, c), m, ok)
		messages[i] = m
	}
	return messages
}

// checkMessage fails unless a ciphertext has the wanted message.
func checkMessage(t *testing.T, name string, gr impl.Group, secret int, c impl.Cipher, want int) {
	t.Helper()
	m, ok := impl.DecryptElement(gr, secret, c)
	checkInt(t, fmt.Sprint("the message of ", name, " for the secret ", secret), want, m, ok)
}

func TestMulCiphersExamples(t *testing.T) {
	for _, c := range []struct {
		l    []impl.Cipher
		want impl.Cipher
	}{
		{nil, impl.Cipher{A: 1, B: 1}}, {[]impl.Cipher{}, impl.Cipher{A: 1, B: 1}}, {ciphersOf(4, 8), exampleCipher}, {ciphersOf(4, 8, 4, 8), impl.Cipher{A: 16, B: 18}}, {ciphersOf(4, 8, 1, 1), exampleCipher}, {ciphersOf(4, 8, 6, 3), impl.Cipher{A: 1, B: 1}}, {ciphersOf(4, 8, 2, 8, 8, 18), impl.Cipher{A: 18, B: 2}},
	} {
		got, ok := impl.MulCiphers(exampleGroup, c.l)
		checkCipher(t, fmt.Sprintf("MulCiphers(%v)", c.l), c.want, got, ok)
	}
}

func TestMulCiphersOfNone(t *testing.T) {
	for _, gr := range allGroups() {
		for _, none := range [][]impl.Cipher{nil, {}} {
			got, ok := impl.MulCiphers(gr, none)
			checkCipher(t, fmt.Sprintf("MulCiphers(%v) of no ciphertexts", gr), impl.Cipher{A: 1, B: 1}, got, ok)
			got, ok = impl.CipherSum(gr, none)
			checkNone(t, fmt.Sprintf("CipherSum(%v) of no ciphertexts", gr), got, ok)
		}
	}
}

func TestMulCiphersOfLists(t *testing.T) {
	for _, gr := range allGroups() {
		for _, l := range cipherLists(gr) {
			name := fmt.Sprintf("MulCiphers(%v, %v)", gr, l)
			got, ok := impl.MulCiphers(gr, l)
			checkCipher(t, name, wantWeighted(gr, l, repeated(1, len(l))), got, ok)
			for _, secret := range someExponents(gr) {
				messages := messagesOf(t, gr, secret, l)
				checkMessage(t, name, gr, secret, got, wantProduct(gr, messages, repeated(1, len(l))))
			}
			if len(l) > 0 {
				sum, ok := impl.CipherSum(gr, l)
				checkCipher(t, fmt.Sprintf("CipherSum(%v, %v)", gr, l), got, sum, ok)
			}
		}
	}
}

func TestCipherSumExamples(t *testing.T) {
	for _, c := range []struct {
		l    []impl.Cipher
		want impl.Cipher
	}{
		{ciphersOf(4, 8), exampleCipher}, {ciphersOf(4, 8, 4, 8), impl.Cipher{A: 16, B: 18}}, {ciphersOf(1, 1), impl.Cipher{A: 1, B: 1}}, {ciphersOf(4, 8, 2, 8, 8, 18), impl.Cipher{A: 18, B: 2}},
	} {
		got, ok := impl.CipherSum(exampleGroup, c.l)
		checkCipher(t, fmt.Sprintf("CipherSum(%v)", c.l), c.want, got, ok)
	}
}

// TestCipherSumIsSumOfMessages encrypts up to MaxList small messages.
func TestCipherSumIsSumOfMessages(t *testing.T) {
	for _, gr := range allGroups() {
		secret := gr.Q / 2
		key := mustKey(t, gr, secret)
		sum, coins := 0, someResidues(gr.Q)
		var l []impl.Cipher
		for i := range maxList {
			v := (7*i + 3) % min(gr.Q, 100)
			c, _ := impl.EncryptExp(gr, key, v, coins[i])
			l, sum = append(l, c), (sum+v)%gr.Q
			total, ok := impl.CipherSum(gr, l)
			if !ok {
				t.Errorf("CipherSum(%v, %v) fails", gr, l)
			}
			got, ok := impl.DecryptExp(gr, secret, total, 100*maxList)
			checkInt(t, fmt.Sprintf("the sum of the messages of %v in %v", l, gr), sum, got, ok)
		}
	}
}

func TestPowCipherExamples(t *testing.T) {
	for _, c := range []struct {
		c    impl.Cipher
		e    int
		want impl.Cipher
	}{
		{exampleCipher, 0, impl.Cipher{A: 1, B: 1}}, {exampleCipher, 1, exampleCipher}, {exampleCipher, 2, impl.Cipher{A: 16, B: 18}}, {exampleCipher, 10, impl.Cipher{A: 6, B: 3}}, {impl.Cipher{A: 1, B: 1}, 7, impl.Cipher{A: 1, B: 1}}, {impl.Cipher{A: 1, B: 2}, 3, impl.Cipher{A: 1, B: 8}}, {impl.Cipher{A: 2, B: 1}, 3, impl.Cipher{A: 8, B: 1}},
	} {
		got, ok := impl.PowCipher(exampleGroup, c.c, c.e)
		checkCipher(t, fmt.Sprintf("PowCipher(%v, %d)", c.c, c.e), c.want, got, ok)
	}
}

// TestPowCipherByMultiplying takes all exponents of small groups.
func TestPowCipherByMultiplying(t *testing.T) {
	for _, gr := range smallGroups() {
		for _, c := range ciphersIn(gr) {
			as, bs := powersIn(gr, c.A, gr.Q), powersIn(gr, c.B, gr.Q)
			for e := range gr.Q {
				got, ok := impl.PowCipher(gr, c, e)
				checkCipher(t, fmt.Sprintf("PowCipher(%v, %v, %d)", gr, c, e), impl.Cipher{A: as[e], B: bs[e]}, got, ok)
			}
		}
	}
}

func TestPowCipherOfAllGroups(t *testing.T) {
	for _, gr := range allGroups() {
		for _, c := range ciphersIn(gr) {
			for i, e := range someExponents(gr) {
				name := fmt.Sprintf("PowCipher(%v, %v, %d)", gr, c, e)
				got, ok := impl.PowCipher(gr, c, e)
				checkCipher(t, name, wantWeighted(gr, []impl.Cipher{c}, []int{e}), got, ok)
				secret := someExponents(gr)[i%3]
				checkMessage(t, name, gr, secret, got, wantPower(wantDecrypted(gr, secret, c), e, gr.P))
			}
		}
	}
}

func TestWeightedProductExamples(t *testing.T) {
	for _, c := range []struct {
		l    []impl.Cipher
		exps []int
		want impl.Cipher
	}{
		{nil, nil, impl.Cipher{A: 1, B: 1}}, {[]impl.Cipher{}, []int{}, impl.Cipher{A: 1, B: 1}}, {ciphersOf(4, 8), []int{2}, impl.Cipher{A: 16, B: 18}}, {ciphersOf(4, 8, 2, 8), []int{2, 3}, impl.Cipher{A: 13, B: 16}}, {ciphersOf(4, 8, 2, 8), []int{3, 2}, impl.Cipher{A: 3, B: 16}}, {ciphersOf(4, 8, 2, 8), []int{0, 0}, impl.Cipher{A: 1, B: 1}}, {ciphersOf(4, 8, 1, 1), []int{1, 10}, exampleCipher},
	} {
		got, ok := impl.WeightedProduct(exampleGroup, c.l, c.exps)
		checkCipher(t, fmt.Sprintf("WeightedProduct(%v, %v)", c.l, c.exps), c.want, got, ok)
	}
}

// checkWeighted compares a weighted product with the product of single powers, and its message with the weighted product of the messages.
func checkWeighted(t *testing.T, gr impl.Group, l []impl.Cipher, exps []int) {
	t.Helper()
	name := fmt.Sprintf("WeightedProduct(%v, %v, %v)", gr, l, exps)
	got, ok := impl.WeightedProduct(gr, l, exps)
	checkCipher(t, name, wantWeighted(gr, l, exps), got, ok)
	powers := make([]impl.Cipher, len(l))
	for i, c := range l {
		powers[i], _ = impl.PowCipher(gr, c, exps[i])
	}
	product, ok := impl.MulCiphers(gr, powers)
	checkCipher(t, "the product of the powers of "+name, got, product, ok)
	for _, secret := range []int{0, 1, gr.Q - 1} {
		checkMessage(t, name, gr, secret, got, wantProduct(gr, messagesOf(t, gr, secret, l), exps))
	}
}

func TestWeightedProductOfLists(t *testing.T) {
	for _, gr := range allGroups() {
		for _, l := range cipherLists(gr) {
			for _, exps := range exponentLists(gr, len(l)) {
				checkWeighted(t, gr, l, exps)
			}
		}
	}
}
