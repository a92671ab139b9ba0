package tests

import (
	"fmt"
	"math"
	"regexp"
	"slices"
	"strings"
	"testing"

	"loop.example/g00878/impl"
)

// Promise 4: records of proofs, ciphertexts, texts and lists are read back, and nothing else is read.
// The expected records are put together here from the values, and all short lists are compared with the set of these records.

const maxRecord = impl.MaxRecord

// greatNumbers are digests that are no number of elements of a record, among them those that become small when doubled or cut off.
var greatNumbers = []int{maxRecord + 1, 1 << 16, 1<<31 - 1, 1 << 31, 1<<31 + 1, 1 << 32, 1<<32 + 1, 1 << 60, 1<<61 - 1, 1 << 61, 1<<61 + 1, maxDigest - 1, maxDigest}

// proofOf returns a proof with copies of the lists.
func proofOf(commits []int, challenges []int, responses []int) impl.Proof {
	return impl.Proof{Commits: slices.Clone(commits), Challenges: slices.Clone(challenges), Responses: slices.Clone(responses)}
}

// withNumbers returns the start, followed for each list by the number of its elements and its elements.
func withNumbers(start []int, lists ...[]int) []int {
	record := slices.Clone(start)
	for _, l := range lists {
		record = append(append(record, len(l)), l...)
	}
	return record
}

// wantProof returns the record of a proof.
func wantProof(p impl.Proof) []int {
	return withNumbers(nil, p.Commits, p.Challenges, p.Responses)
}

// wantCiphers returns the record of ciphertexts.
func wantCiphers(l []impl.Cipher) []int {
	record := []int{len(l)}
	for _, c := range l {
		record = append(record, c.A, c.B)
	}
	return record
}

// wantText returns the record of a text.
func wantText(s string) []int {
	return labelled(s)
}

// wantJoined returns the record of lists.
func wantJoined(l [][]int) []int {
	return withNumbers([]int{len(l)}, l...)
}

// ciphersOf returns ciphertexts with the elements of a list, two by two.
func ciphersOf(l ...int) []impl.Cipher {
	ciphers := make([]impl.Cipher, len(l)/2)
	for i := range ciphers {
		ciphers[i] = impl.Cipher{A: l[2*i], B: l[2*i+1]}
	}
	return ciphers
}

// same reports whether two values are the same. Nil lists and empty lists are.
func same[T any](a T, b T) bool {
	return fmt.Sprint(a) == fmt.Sprint(b)
}

// checkNone fails unless a call returned the zero value and false.
func checkNone[T any](t *testing.T, name string, got T, ok bool) {
	t.Helper()
	var zero T
	if ok || !same(got, zero) {
		t.Errorf("%s = %v, %v; want the zero value, false", name, got, ok)
	}
}

// checkCodec fails unless a value has the wanted record and is read back from it.
func checkCodec[T any](t *testing.T, encode func(T) ([]int, bool), decode func([]int) (T, bool), value T, want []int) {
	t.Helper()
	record, ok := encode(value)
	checkList(t, fmt.Sprintf("the record of %v", value), want, record, ok)
	if back, ok := decode(want); !ok || !same(back, value) {
		t.Errorf("the value of the record %v = %v, %v; want %v, true", want, back, ok, value)
	}
}

// checkBroken fails if a function reads lists that a record becomes by one fault.
func checkBroken[T any](t *testing.T, decode func([]int) (T, bool), record []int) {
	t.Helper()
	check := func(broken []int) {
		t.Helper()
		got, ok := decode(broken)
		checkNone(t, fmt.Sprintf("the value of the broken record %v", broken), got, ok)
	}
	for n := range record {
		check(record[:n])
	}
	for _, x := range []int{0, 1, len(record), maxDigest, -1} {
		check(append(slices.Clone(record), x))
	}
	for _, n := range append([]int{len(record), len(record) + 1}, greatNumbers...) {
		check(append([]int{n}, record[1:]...))
	}
	for i := range record {
		for _, x := range notDigests {
			broken := slices.Clone(record)
			broken[i] = x
			check(broken)
		}
	}
}

// smallLists returns all lists of at most longest integers in 0..limit-1.
func smallLists(limit int, longest int) [][]int {
	if longest < 0 {
		return nil
	}
	lists := [][]int{nil}
	for i := 0; len(lists[i]) < longest; i++ {
		for x := range limit {
			lists = append(lists, append(slices.Clone(lists[i]), x))
		}
	}
	return lists
}

// checkAllShort reads all lists of at most longest integers in 0..limit-1 and fails unless exactly the records of the values are accepted.
func checkAllShort[T any](t *testing.T, decode func([]int) (T, bool), record func(T) []int, values []T, limit int, longest int) {
	t.Helper()
	valueOf := map[string]T{}
	for _, value := range values {
		valueOf[fmt.Sprint(record(value))] = value
	}
	for _, l := range smallLists(limit, longest) {
		got, ok := decode(l)
		value, want := valueOf[fmt.Sprint(l)]
		if ok != want || !same(got, value) {
			t.Errorf("the value of %v = %v, %v; want %v, %v", l, got, ok, value, want)
		}
	}
}

func TestRecordConstants(t *testing.T) {
	if maxRecord != 400 {
		t.Error("the limit of chapter 4 is", maxRecord)
	}
}

// someProofs are proofs without and with elements in each list, up to the longest record.
func someProofs() []impl.Proof {
	l := []impl.Proof{
		{},
		proofOf([]int{5, 6}, []int{7}, nil),
		proofOf([]int{5}, nil, nil),
		proofOf(nil, []int{5}, nil),
		proofOf(nil, nil, []int{5}),
		proofOf([]int{1}, []int{2}, nil),
		proofOf([]int{1}, nil, []int{2}),
		proofOf(nil, []int{1}, []int{2}),
		proofOf([]int{}, []int{}, []int{}),
		proofOf([]int{0}, []int{0}, []int{0}),
		proofOf([]int{0, 0, 0}, []int{0, 0}, []int{0}),
		proofOf([]int{maxDigest}, []int{maxDigest, maxDigest}, []int{maxDigest, maxDigest, maxDigest}),
		proofOf(someDigests, someDigests, someDigests),
		proofOf(counting(133), counting(132), counting(132)),
		proofOf(repeated(0, 397), nil, nil),
		proofOf(nil, repeated(maxDigest, 397), nil),
		proofOf(nil, nil, counting(397)),
	}
	for n := range 10 {
		l = append(l, proofOf(counting(n), repeated(n, 9-n), counting(2*n)))
	}
	return l
}

func TestEncodeProofExample(t *testing.T) {
	got, ok := impl.EncodeProof(impl.Proof{Commits: []int{5, 6}, Challenges: []int{7}})
	checkList(t, "EncodeProof of the example", []int{2, 5, 6, 1, 7, 0}, got, ok)
	got, ok = impl.EncodeProof(impl.Proof{})
	checkList(t, "EncodeProof of the empty proof", []int{0, 0, 0}, got, ok)
	got, ok = impl.EncodeProof(proofOf([]int{0}, []int{maxDigest}, []int{3, 4}))
	checkList(t, "EncodeProof of three lists", []int{1, 0, 1, 4611686018427387903, 2, 3, 4}, got, ok)
}

func TestProofsAreReadBack(t *testing.T) {
	for _, p := range someProofs() {
		checkCodec(t, impl.EncodeProof, impl.DecodeProof, p, wantProof(p))
	}
}

// TestProofsAtLimit divides 397 elements among the lists, for a record at the limit, and adds one more element to each list in turn.
func TestProofsAtLimit(t *testing.T) {
	for a := 0; a <= 397; a += 13 {
		for b := 0; a+b <= 397; b += 17 {
			parts := [3][]int{repeated(maxDigest, a), repeated(0, b), counting(397 - a - b)}
			p := proofOf(parts[0], parts[1], parts[2])
			if len(wantProof(p)) != maxRecord {
				t.Fatalf("the proof has a record of %d elements", len(wantProof(p)))
			}
			checkCodec(t, impl.EncodeProof, impl.DecodeProof, p, wantProof(p))
			for i := range parts {
				longer := parts
				longer[i] = append(slices.Clone(parts[i]), 1)
				p = proofOf(longer[0], longer[1], longer[2])
				record, ok := impl.EncodeProof(p)
				checkNone(t, fmt.Sprintf("EncodeProof(%v)", p), record, ok)
				back, ok := impl.DecodeProof(wantProof(p))
				checkNone(t, fmt.Sprintf("DecodeProof(%v)", wantProof(p)), back, ok)
			}
		}
	}
}

func TestEncodeProofInvalid(t *testing.T) {
	lists := [][]int{repeated(0, 398), repeated(1, 399), repeated(1, maxRecord), repeated(1, maxRecord+1), repeated(1, 100000)}
	for _, x := range notDigests {
		lists = append(lists, []int{x}, []int{x, 1, 2}, []int{1, x, 2}, []int{1, 2, x}, append(repeated(0, 300), x))
	}
	for _, l := range lists {
		for _, other := range [][]int{nil, {0}, {1, 2}} {
			for _, p := range []impl.Proof{proofOf(l, other, other), proofOf(other, l, other), proofOf(other, other, l)} {
				got, ok := impl.EncodeProof(p)
				checkNone(t, fmt.Sprintf("EncodeProof(%v)", p), got, ok)
			}
		}
	}
}

func TestDecodeProofOfShortLists(t *testing.T) {
	var proofs []impl.Proof
	lists := smallLists(4, 3)
	for _, a := range lists {
		for _, b := range lists {
			for _, c := range lists {
				if len(a)+len(b)+len(c) <= 3 {
					proofs = append(proofs, proofOf(a, b, c))
				}
			}
		}
	}
	checkAllShort(t, impl.DecodeProof, wantProof, proofs, 4, 6)
}

func TestDecodeProofInvalid(t *testing.T) {
	for _, p := range someProofs() {
		if len(wantProof(p)) < 50 {
			checkBroken(t, impl.DecodeProof, wantProof(p))
		}
	}
	for _, n := range greatNumbers {
		for _, l := range [][]int{{n}, {n, 0, 0}, {0, n, 0}, {0, 0, n}, {1, 5, n, 0}, {1, 5, 1, 6, n, 7}, {2, 5, 6, n, 7, 0}, append([]int{n}, repeated(0, 399)...), append([]int{0, n}, repeated(0, 398)...), append([]int{0, 0, n}, repeated(0, 397)...)} {
			got, ok := impl.DecodeProof(l)
			checkNone(t, fmt.Sprintf("DecodeProof(%v)", l), got, ok)
		}
	}
	for _, l := range append(badDigestLists(), nil, []int{}, []int{0}, []int{0, 0}, []int{0, 0, 0, 0}, []int{1, 0, 0}, []int{0, 1, 0}, []int{0, 0, 1}, []int{3, 1, 0}, []int{-1, 0, 0, 0}, []int{1, -1, 0, 0}, []int{2, 5, 6, 1, 7}) {
		got, ok := impl.DecodeProof(l)
		checkNone(t, fmt.Sprintf("DecodeProof(%v)", l), got, ok)
	}
}

// someCiphers are lists of ciphertexts up to the longest record, which has 199 of them.
func someCiphers() [][]impl.Cipher {
	return [][]impl.Cipher{nil, {}, ciphersOf(0, 0), ciphersOf(4, 8), ciphersOf(8, 4), ciphersOf(1, 2, 3, 4), ciphersOf(3, 4, 1, 2), ciphersOf(maxDigest, 0, 0, maxDigest), ciphersOf(append(someDigests, 7)...), ciphersOf(counting(48)...), ciphersOf(counting(50)...), ciphersOf(counting(396)...), ciphersOf(counting(398)...), ciphersOf(repeated(0, 398)...), ciphersOf(repeated(maxDigest, 398)...)}
}

func TestEncodeCiphersExamples(t *testing.T) {
	got, ok := impl.EncodeCiphers(nil)
	checkList(t, "EncodeCiphers of no ciphertexts", []int{0}, got, ok)
	got, ok = impl.EncodeCiphers([]impl.Cipher{{A: 4, B: 8}})
	checkList(t, "EncodeCiphers of one ciphertext", []int{1, 4, 8}, got, ok)
	got, ok = impl.EncodeCiphers([]impl.Cipher{{A: 4, B: 8}, {A: 0, B: maxDigest}})
	checkList(t, "EncodeCiphers of two ciphertexts", []int{2, 4, 8, 0, 4611686018427387903}, got, ok)
}

func TestCiphersAreReadBack(t *testing.T) {
	for _, l := range someCiphers() {
		checkCodec(t, impl.EncodeCiphers, impl.DecodeCiphers, l, wantCiphers(l))
	}
	for n := range 200 {
		l := ciphersOf(counting(2 * n)...)
		checkCodec(t, impl.EncodeCiphers, impl.DecodeCiphers, l, wantCiphers(l))
	}
}

func TestEncodeCiphersInvalid(t *testing.T) {
	for _, n := range []int{200, 201, 399, maxRecord, maxRecord + 1, 100000} {
		got, ok := impl.EncodeCiphers(make([]impl.Cipher, n))
		checkNone(t, fmt.Sprintf("EncodeCiphers of %d", n), got, ok)
	}
	for _, x := range notDigests {
		for _, l := range [][]int{{x, 1}, {1, x}, {x, 1, 2, 3}, {1, x, 2, 3}, {1, 2, x, 3}, {1, 2, 3, x}, append(repeated(1, 397), x), append([]int{x}, repeated(1, 397)...)} {
			got, ok := impl.EncodeCiphers(ciphersOf(l...))
			checkNone(t, fmt.Sprintf("EncodeCiphers of the elements %v", l), got, ok)
		}
	}
}

func TestDecodeCiphersOfShortLists(t *testing.T) {
	var values [][]impl.Cipher
	for _, l := range smallLists(4, 6) {
		if len(l)%2 == 0 {
			values = append(values, ciphersOf(l...))
		}
	}
	checkAllShort(t, impl.DecodeCiphers, wantCiphers, values, 4, 7)
}

func TestDecodeCiphersInvalid(t *testing.T) {
	for _, l := range someCiphers() {
		if len(l) < 30 {
			checkBroken(t, impl.DecodeCiphers, wantCiphers(l))
		}
	}
	lists := append(badDigestLists(), nil, []int{}, []int{1}, []int{1, 4}, []int{2, 4, 8}, []int{0, 4, 8}, []int{1, 4, 8, 1}, []int{2, 4, 8, 1}, []int{3, 4, 8}, []int{-1}, []int{-1, 4, 8}, []int{1, -1, 8}, []int{1, 4, -1}, wantCiphers(make([]impl.Cipher, 200)), append([]int{199}, repeated(0, 397)...), append([]int{199}, repeated(0, 399)...), append([]int{200}, repeated(0, 399)...))
	for _, n := range greatNumbers {
		lists = append(lists, []int{n}, []int{n, 4, 8}, append([]int{n}, repeated(0, 398)...))
	}
	for _, l := range lists {
		got, ok := impl.DecodeCiphers(l)
		checkNone(t, fmt.Sprintf("DecodeCiphers(%v)", l), got, ok)
	}
}

// someTexts are texts up to the longest record, which has 399 bytes, among them texts that are no UTF-8.
var someTexts = []string{"", "a", "ab", "ba", " ", "-", "1,2", "\x00", "\x00\x00", "\x7f", "\x80", "\xff", "\xff\x00\x80", "é", "aé", "日本語", "\xe6\x97", "\xc3", "�", "\xef\xbf\xbd", "\xed\xa0\x80", "\xf4\x90\x80\x80", strings.Repeat("x", 398), strings.Repeat("x", 399), strings.Repeat("\xff", 399), strings.Repeat("\x00", 399), strings.Repeat("é", 199), strings.Repeat("é", 199) + "x", strings.Repeat("日", 133)}

// longTexts have too many bytes; some of them have few letters.
var longTexts = []string{strings.Repeat("x", 400), strings.Repeat("x", 401), strings.Repeat("\x00", 400), strings.Repeat("é", 200), strings.Repeat("日", 134), strings.Repeat("😀", 100), strings.Repeat("x", 1<<16), strings.Repeat("x", 1<<20)}

func TestEncodeTextExamples(t *testing.T) {
	cases := map[string][]int{
		"":             {0},
		"ab":           {2, 97, 98},
		"é":            {2, 195, 169},
		"\xff":         {1, 255},
		"\x00\x80":     {2, 0, 128},
		"日":            {3, 230, 151, 165},
		"\xe6\x97":     {2, 230, 151},
		"\xef\xbf\xbd": {3, 239, 191, 189},
	}
	for s, want := range cases {
		got, ok := impl.EncodeText(s)
		checkList(t, fmt.Sprintf("EncodeText(%q)", s), want, got, ok)
	}
}

func TestTextsAreReadBack(t *testing.T) {
	for _, s := range append(slices.Clone(someTexts), someLabels...) {
		checkCodec(t, impl.EncodeText, impl.DecodeText, s, wantText(s))
	}
	for n := range maxRecord {
		s := strings.Repeat("m", n)
		checkCodec(t, impl.EncodeText, impl.DecodeText, s, wantText(s))
	}
	for a := range 256 {
		for _, b := range []int{0, 10, 65, 127, 128, 169, 191, 255, a} {
			s := string([]byte{byte(a), byte(b)})
			checkCodec(t, impl.EncodeText, impl.DecodeText, s, []int{2, a, b})
		}
	}
}

func TestEncodeTextInvalid(t *testing.T) {
	for _, s := range longTexts {
		got, ok := impl.EncodeText(s)
		checkNone(t, fmt.Sprintf("EncodeText of %d bytes", len(s)), got, ok)
	}
}

func TestDecodeTextOfShortLists(t *testing.T) {
	var texts []string
	for _, l := range smallLists(6, 5) {
		text := make([]byte, len(l))
		for i, b := range l {
			text[i] = byte(b)
		}
		texts = append(texts, string(text))
	}
	checkAllShort(t, impl.DecodeText, wantText, texts, 6, 6)
}

func TestDecodeTextInvalid(t *testing.T) {
	for _, s := range someTexts {
		if len(s) < 30 {
			checkBroken(t, impl.DecodeText, wantText(s))
		}
	}
	lists := append(badDigestLists(), nil, []int{}, []int{1}, []int{0, 97}, []int{1, 97, 98}, []int{2, 97}, []int{3, 97, 98}, []int{-1}, []int{1, -1}, labelled(strings.Repeat("x", 400)), append([]int{399}, repeated(97, 398)...), append([]int{400}, repeated(97, 399)...), append([]int{399}, repeated(97, 400)...))
	for _, x := range append([]int{256, 257, 256 + 97, 511, 512, 1 << 16, 1<<32 + 97, 1<<61 + 97}, greatNumbers...) {
		lists = append(lists, []int{1, x}, []int{2, x, 97}, []int{2, 97, x}, []int{3, 97, x, 98}, append(append([]int{399}, repeated(97, 398)...), x))
	}
	for _, l := range lists {
		got, ok := impl.DecodeText(l)
		checkNone(t, fmt.Sprintf("DecodeText(%v)", l), got, ok)
	}
}

// someJoins are lists of lists up to the longest record.
func someJoins() [][][]int {
	l := [][][]int{nil, {}, {nil}, {{}}, {{}, {}}, {{1, 2}, {}}, {{}, {1, 2}}, {{}, {1}, {}}, {{0}}, {{0}, {0}}, {{maxDigest}}, {{maxDigest, 0}, {0, maxDigest}}, {{2, 1, 2}, {0}, {1, 0}}, {{1, 2, 3}, {4, 5}, {6}, {}}, {someDigests, nil, someDigests}, {counting(398)}, {repeated(maxDigest, 398)}, {nil, counting(397)}, {counting(397), nil}, {counting(199), counting(198)}, make([][]int, 399)}
	for n := range 399 {
		l = append(l, [][]int{counting(n)}, make([][]int, n))
	}
	return l
}

func TestJoinRecordsExamples(t *testing.T) {
	got, ok := impl.JoinRecords([][]int{{1, 2}, {}})
	checkList(t, "JoinRecords of the example", []int{2, 2, 1, 2, 0}, got, ok)
	got, ok = impl.JoinRecords(nil)
	checkList(t, "JoinRecords of no lists", []int{0}, got, ok)
	got, ok = impl.JoinRecords([][]int{nil, {}, {7}})
	checkList(t, "JoinRecords of empty lists", []int{3, 0, 0, 1, 7}, got, ok)
}

func TestJoinedRecordsAreSplit(t *testing.T) {
	for _, l := range someJoins() {
		checkCodec(t, impl.JoinRecords, impl.SplitRecords, l, wantJoined(l))
	}
}

// TestJoinedRecordsAtLimit takes n lists of together 399-n elements, for a record at the limit, and one more element or list.
func TestJoinedRecordsAtLimit(t *testing.T) {
	for n := 1; n < maxRecord; n++ {
		l := make([][]int, n)
		l[n/2] = counting(399 - n)
		if len(wantJoined(l)) != maxRecord {
			t.Fatalf("%d lists have a record of %d elements", n, len(wantJoined(l)))
		}
		checkCodec(t, impl.JoinRecords, impl.SplitRecords, l, wantJoined(l))
		more := append(slices.Clone(l), nil)
		l[n-1] = append(l[n-1], 3)
		for _, long := range [][][]int{l, more} {
			record, ok := impl.JoinRecords(long)
			checkNone(t, fmt.Sprintf("JoinRecords(%v)", long), record, ok)
			back, ok := impl.SplitRecords(wantJoined(long))
			checkNone(t, fmt.Sprintf("SplitRecords(%v)", wantJoined(long)), back, ok)
		}
	}
}

// TestJoinedRecordsInRecords joins records that are joined themselves.
func TestJoinedRecordsInRecords(t *testing.T) {
	inner := [][]int{wantProof(proofOf([]int{5, 6}, []int{7}, nil)), wantCiphers(ciphersOf(4, 8)), wantText("ab"), wantJoined([][]int{{1, 2}, {}}), wantJoined(nil)}
	checkCodec(t, impl.JoinRecords, impl.SplitRecords, inner, wantJoined(inner))
	outer := [][]int{wantJoined(inner), nil, wantJoined(inner)}
	checkCodec(t, impl.JoinRecords, impl.SplitRecords, outer, wantJoined(outer))
}

func TestJoinRecordsInvalid(t *testing.T) {
	lists := [][][]int{make([][]int, 400), make([][]int, 401), make([][]int, 100000), {repeated(0, 399)}, {repeated(0, 400)}, {repeated(0, 401)}, {repeated(0, 100000)}, {nil, repeated(0, 398)}, {repeated(0, 398), nil}, {counting(200), counting(198)}}
	for _, x := range notDigests {
		lists = append(lists, [][]int{{x}}, [][]int{{x, 1, 2}}, [][]int{{1, 2, x}}, [][]int{{x}, {}}, [][]int{{}, {x}}, [][]int{{1, 2}, {3, x}, {4}}, [][]int{counting(300), {x}})
	}
	for _, l := range lists {
		got, ok := impl.JoinRecords(l)
		checkNone(t, fmt.Sprintf("JoinRecords(%v)", l), got, ok)
	}
}

// smallJoins returns all lists of lists of integers in 0..limit-1 whose records have at most longest elements.
func smallJoins(limit int, longest int) [][][]int {
	joins := [][][]int{nil}
	for i := 0; i < len(joins); i++ {
		room := longest - len(wantJoined(joins[i]))
		for _, l := range smallLists(limit, room-1) {
			joins = append(joins, append(slices.Clone(joins[i]), l))
		}
	}
	return joins
}

func TestSplitRecordsOfShortLists(t *testing.T) {
	checkAllShort(t, impl.SplitRecords, wantJoined, smallJoins(5, 6), 5, 6)
	checkAllShort(t, impl.SplitRecords, wantJoined, smallJoins(3, 8), 3, 8)
}

func TestSplitRecordsInvalid(t *testing.T) {
	for _, l := range someJoins() {
		if len(wantJoined(l)) < 20 {
			checkBroken(t, impl.SplitRecords, wantJoined(l))
		}
	}
	lists := append(badDigestLists(), nil, []int{}, []int{1}, []int{0, 0}, []int{1, 1}, []int{1, 0, 0}, []int{2, 0}, []int{2, 2, 1, 2}, []int{2, 1, 1, 2, 0}, []int{1, 2, 1, 2, 0}, []int{3, 2, 1, 2, 0}, []int{2, 3, 1, 2, 0}, []int{-1}, []int{-1, 0}, []int{1, -1}, []int{1, -1, 0})
	for _, n := range greatNumbers {
		lists = append(lists, []int{n}, []int{n, 0}, []int{1, n}, []int{1, n, 0}, []int{2, 0, n}, []int{2, 1, 5, n}, []int{2, n, 5, 0}, append([]int{n}, repeated(0, 399)...), append([]int{1, n}, repeated(0, 398)...))
	}
	for _, l := range lists {
		got, ok := impl.SplitRecords(l)
		checkNone(t, fmt.Sprintf("SplitRecords(%v)", l), got, ok)
	}
}

// listTexts are records with their texts, by hand.
var listTexts = map[string][]int{
	"-":                       nil,
	"0":                       {0},
	"1":                       {1},
	"10":                      {10},
	"1,20":                    {1, 20},
	"0,0":                     {0, 0},
	"0,10,0":                  {0, 10, 0},
	"2,5,6,1,7,0":             {2, 5, 6, 1, 7, 0},
	"1234567890":              {1234567890},
	"4611686018427387903":     {maxDigest},
	"4611686018427387899":     {maxDigest - 4},
	"4611686018427387900":     {maxDigest - 3},
	"999999999999999999":      {999999999999999999},
	"1000000000000000000":     {1000000000000000000},
	"0,4611686018427387903,0": {0, maxDigest, 0},
}

// checkListText fails unless a record has the wanted text and is read back from it.
func checkListText(t *testing.T, l []int, want string) {
	t.Helper()
	if got, ok := impl.FormatList(l); !ok || got != want {
		t.Errorf("FormatList(%v) = %q, %v; want %q, true", l, got, ok, want)
	}
	back, ok := impl.ParseList(want)
	checkList(t, fmt.Sprintf("ParseList(%q)", want), l, back, ok)
}

func TestFormatListExamples(t *testing.T) {
	for want, l := range listTexts {
		checkListText(t, l, want)
	}
	checkListText(t, []int{}, "-")
}

func TestListTextsAreReadBack(t *testing.T) {
	lists := digestLists()
	for n := range maxRecord + 1 {
		lists = append(lists, repeated(maxDigest, n), repeated(0, n), counting(n))
	}
	for d := range 3000 {
		lists = append(lists, []int{d}, []int{maxDigest - d, d})
	}
	for i := range 62 {
		lists = append(lists, []int{1 << i}, []int{1<<i - 1, 1<<i + 1})
	}
	for power := 10; power < maxDigest/10; power *= 10 {
		lists = append(lists, []int{power - 1, power, power + 1}, []int{4 * power})
	}
	for _, l := range lists {
		if len(l) == 0 {
			checkListText(t, l, "-")
			continue
		}
		checkListText(t, l, strings.ReplaceAll(strings.Trim(fmt.Sprint(l), "[]"), " ", ","))
	}
}

func TestFormatListInvalid(t *testing.T) {
	for _, l := range append(badDigestLists(), []int{-1, -1}, repeated(maxDigest, maxRecord+1)) {
		got, ok := impl.FormatList(l)
		checkNone(t, fmt.Sprintf("FormatList(%v)", l), got, ok)
	}
}

// goodText describes the texts of nonempty records with numbers of any size.
var goodText = regexp.MustCompile(`^(0|[1-9][0-9]*)(,(0|[1-9][0-9]*))*$`)

// checkParsed fails unless exactly the texts of records, whose numbers must be small, are read, and they are formatted again.
func checkParsed(t *testing.T, s string) {
	t.Helper()
	l, ok := impl.ParseList(s)
	if want := s == "-" || goodText.MatchString(s); ok != want {
		t.Errorf("ParseList(%q) = %v, %v; want %v", s, l, ok, want)
	}
	if !ok {
		checkNone(t, fmt.Sprintf("ParseList(%q)", s), l, ok)
		return
	}
	if again, ok := impl.FormatList(l); !ok || again != s {
		t.Errorf("FormatList of ParseList(%q) = %q, %v", s, again, ok)
	}
}

func TestParseListOfShortTexts(t *testing.T) {
	const letters = "019,-+ "
	for _, l := range smallLists(len(letters), 6) {
		text := make([]byte, len(l))
		for i, k := range l {
			text[i] = letters[k]
		}
		checkParsed(t, string(text))
	}
}

// TestParseListOfAllBytes sets each byte of texts to each value, and puts each value before it.
func TestParseListOfAllBytes(t *testing.T) {
	for _, s := range []string{"-", "0", "7", "12,34", "0,10,0"} {
		for i := range len(s) {
			for b := range 256 {
				one := string([]byte{byte(b)})
				checkParsed(t, s[:i]+one+s[i+1:])
				checkParsed(t, s[:i]+one+s[i:])
				checkParsed(t, s+one)
			}
		}
	}
}

// TestParseListOfRunes takes letters that are digits of other scripts, or whose lowest byte is a digit, a comma or a minus.
func TestParseListOfRunes(t *testing.T) {
	for _, r := range []rune{'０', '１', '٣', '१', '²', '½', '，', '、', '−', '–', '\u012c', '\u012d', '\u0130', '\u0131', '\u0139', 0x1002c, 0x10031, '\ufeff', '\u00a0', '\u2028', '\ufffd', 0x10ffff} {
		for _, s := range []string{"%c", "1%c", "%c1", "1%c2", "1,%c", "1,%c,2", "-%c", "%c-", "0%c0"} {
			checkParsed(t, fmt.Sprintf(s, r))
		}
	}
}

func TestParseListInvalid(t *testing.T) {
	texts := []string{"", ",", ",,", ",1", "1,", "1,,2", ",1,2", "1,2,", "--", "-,-", "-,1", "1,-", "- ", " -", "-1", "-0", "+1", "+0", "+", "1,-2", "1,+2",
		"00", "01", "007", "1,02", "00,1", "1,00", "0000", " 1", "1 ", "1 ,2", "1, 2", "1 2", "\t1", "1\n", "1,2\n", "\n", "1\r\n", "1\x00", "\x001",
		"0x1", "0b1", "0o1", "1_000", "1e3", "1.0", "1.", ".1", "a", "A", "ff", "1;2", "1:2", "1/2", "1.2", "[1,2]", "[]", "()", "\"1\"", "nil", "NaN", "inf",
		"\xff", "1\xff", "1\x80,2", "\xc3", "1,\xe6\x97", "é"}
	for _, number := range []string{"4611686018427387904", "4611686018427387905", "4611686018427387910", "4611686018427387913", "5000000000000000000", "9223372036854775806", "9223372036854775807", "9223372036854775808", "9223372036854775809", "9999999999999999999", "10000000000000000000", "18446744073709551615", "18446744073709551616", "18446744073709551617", "36893488147419103232", "46116860184273879030", "46116860184273879039", "92233720368547758080", "340282366920938463463374607431768211456", strings.Repeat("1", 100), strings.Repeat("9", 100000), "1" + strings.Repeat("0", 64), "04611686018427387903", strings.Repeat("0", 100) + "1"} {
		texts = append(texts, number, "1,"+number, number+",1", "1,"+number+",2")
	}
	for _, n := range []int{maxRecord + 1, maxRecord + 2, 2 * maxRecord, 100000} {
		texts = append(texts, strings.Repeat("0,", n-1)+"0", strings.Repeat("4611686018427387903,", n-1)+"1")
	}
	texts = append(texts, strings.Repeat("0,", maxRecord), strings.Repeat(",", maxRecord), strings.Repeat("0,", maxRecord)+"x", strings.Repeat("0", 1<<20), strings.Repeat(",", 1<<20), strings.Repeat("-", 1<<20))
	for _, s := range texts {
		got, ok := impl.ParseList(s)
		checkNone(t, fmt.Sprintf("ParseList of %q", s[:min(len(s), 100)]), got, ok)
	}
}

// TestRecordsHaveTexts writes records of all kinds as texts and reads them back.
func TestRecordsHaveTexts(t *testing.T) {
	var records [][]int
	for _, p := range someProofs() {
		records = append(records, wantProof(p))
	}
	for _, l := range someCiphers() {
		records = append(records, wantCiphers(l))
	}
	for _, s := range someTexts {
		records = append(records, wantText(s))
	}
	for _, l := range someJoins() {
		records = append(records, wantJoined(l))
	}
	for _, record := range records {
		s, ok := impl.FormatList(record)
		back, is := impl.ParseList(s)
		checkList(t, fmt.Sprintf("ParseList of FormatList(%v)", record), record, back, ok && is)
	}
}

// TestRecordsOfLeastIntegers takes integers whose negation or double is not an int.
func TestRecordsOfLeastIntegers(t *testing.T) {
	for _, x := range []int{math.MinInt, math.MinInt + 1, -maxDigest - 1, math.MaxInt} {
		for _, l := range [][]int{{x}, {x, x, x}, {1, x}, {1, x, x}, append([]int{x}, repeated(0, 399)...)} {
			p, ok := impl.DecodeProof(l)
			checkNone(t, fmt.Sprintf("DecodeProof(%v)", l), p, ok)
			c, ok := impl.DecodeCiphers(l)
			checkNone(t, fmt.Sprintf("DecodeCiphers(%v)", l), c, ok)
			s, ok := impl.DecodeText(l)
			checkNone(t, fmt.Sprintf("DecodeText(%v)", l), s, ok)
			parts, ok := impl.SplitRecords(l)
			checkNone(t, fmt.Sprintf("SplitRecords(%v)", l), parts, ok)
		}
	}
}
