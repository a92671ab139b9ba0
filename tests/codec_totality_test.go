package tests

import (
	"fmt"
	"math"
	"slices"
	"strings"
	"testing"

	"loop.example/g00878/impl"
)

// Promise 33 for chapter 4.

// checkTotalCall calls a function, which must not panic and must return the zero value with false.
func checkTotalCall[T any](t *testing.T, name string, f func() (T, bool)) {
	t.Helper()
	mustNotPanic(t, name, func() {
		if x, ok := f(); !ok {
			checkNone(t, name, x, ok)
		}
	})
}

// checkListReaders calls the functions of one list of integers with a copy of a list and fails if one of them panics, has a result with false, or touches the list.
func checkListReaders(t *testing.T, l []int) {
	t.Helper()
	given := withSpare(l)
	checkTotalCall(t, "DecodeProof", func() (impl.Proof, bool) { return impl.DecodeProof(given) })
	checkUntouched(t, "DecodeProof", given, l)
	checkTotalCall(t, "DecodeCiphers", func() ([]impl.Cipher, bool) { return impl.DecodeCiphers(given) })
	checkUntouched(t, "DecodeCiphers", given, l)
	checkTotalCall(t, "DecodeText", func() (string, bool) { return impl.DecodeText(given) })
	checkUntouched(t, "DecodeText", given, l)
	checkTotalCall(t, "SplitRecords", func() ([][]int, bool) { return impl.SplitRecords(given) })
	checkUntouched(t, "SplitRecords", given, l)
	checkTotalCall(t, "FormatList", func() (string, bool) { return impl.FormatList(given) })
	checkUntouched(t, "FormatList", given, l)
}

// validRecords are records of all kinds.
func validRecords() [][]int {
	var records [][]int
	for _, p := range someProofs() {
		records = append(records, wantProof(p))
	}
	for _, l := range someCiphers() {
		records = append(records, wantCiphers(l))
	}
	for _, s := range someTexts {
		records = append(records, wantText(s))
	}
	for _, l := range someJoins()[:50] {
		records = append(records, wantJoined(l))
	}
	return records
}

func TestRecordReadersAreTotal(t *testing.T) {
	for _, l := range append(anyDigestLists(), validRecords()...) {
		checkListReaders(t, l)
	}
	for _, a := range extremes {
		for _, b := range extremes {
			for _, c := range extremes {
				checkListReaders(t, []int{a, b, c})
			}
			checkListReaders(t, append([]int{a, b}, repeated(0, maxRecord-2)...))
			checkListReaders(t, append([]int{a, b}, repeated(1, maxRecord-1)...))
		}
	}
}

func TestParseListIsTotal(t *testing.T) {
	texts := slices.Concat(anyLabels(), someTexts, longTexts, []string{"9223372036854775808", "-9223372036854775808", strings.Repeat("1,", 1<<20), strings.Repeat("\xff", 1<<20)})
	for _, s := range texts {
		checkTotalCall(t, fmt.Sprintf("ParseList of %d bytes", len(s)), func() ([]int, bool) { return impl.ParseList(s) })
		checkTotalCall(t, fmt.Sprintf("EncodeText of %d bytes", len(s)), func() ([]int, bool) { return impl.EncodeText(s) })
	}
}

// checkProofCall calls EncodeProof with copies of three lists and fails if it panics, has a result with false, or touches a list.
func checkProofCall(t *testing.T, a []int, b []int, c []int) {
	t.Helper()
	p := impl.Proof{Commits: withSpare(a), Challenges: withSpare(b), Responses: withSpare(c)}
	checkTotalCall(t, "EncodeProof", func() ([]int, bool) { return impl.EncodeProof(p) })
	checkUntouched(t, "EncodeProof", p.Commits, a)
	checkUntouched(t, "EncodeProof", p.Challenges, b)
	checkUntouched(t, "EncodeProof", p.Responses, c)
}

func TestEncodeProofIsTotal(t *testing.T) {
	lists := anyDigestLists()
	for i, l := range lists {
		checkProofCall(t, l, nil, nil)
		checkProofCall(t, nil, l, nil)
		checkProofCall(t, nil, nil, l)
		checkProofCall(t, l, lists[len(lists)-1-i], lists[(i+1)%len(lists)])
	}
	for _, p := range someProofs() {
		checkProofCall(t, p.Commits, p.Challenges, p.Responses)
	}
}

// ciphersWithSpare returns a copy of ciphertexts with marked spare capacity behind it.
func ciphersWithSpare(l []impl.Cipher) []impl.Cipher {
	mark := impl.Cipher{A: spareMark, B: spareMark}
	whole := append(slices.Clone(l), mark, mark, mark)
	return whole[:len(l):len(whole)]
}

// checkCiphersUntouched fails if a list that ciphersWithSpare made of want was changed, or the capacity behind it.
func checkCiphersUntouched(t *testing.T, name string, got []impl.Cipher, want []impl.Cipher) {
	t.Helper()
	if whole := ciphersWithSpare(want); !slices.Equal(got[:cap(got)], whole[:cap(whole)]) {
		t.Errorf("%s changed its argument %v to %v", name, want, got)
	}
}

func TestEncodeCiphersIsTotal(t *testing.T) {
	lists := append(someCiphers(), make([]impl.Cipher, 200), make([]impl.Cipher, maxRecord), make([]impl.Cipher, 100000))
	for _, a := range extremes {
		for _, b := range extremes {
			lists = append(lists, ciphersOf(a, b), ciphersOf(a, b, b, a), ciphersOf(1, a, b, 1))
		}
	}
	for _, l := range lists {
		given := ciphersWithSpare(l)
		checkTotalCall(t, "EncodeCiphers", func() ([]int, bool) { return impl.EncodeCiphers(given) })
		checkCiphersUntouched(t, "EncodeCiphers", given, l)
	}
}

// checkJoinCall calls JoinRecords with copies of lists and fails if it panics, has a result with false, or touches a list.
func checkJoinCall(t *testing.T, l [][]int) {
	t.Helper()
	spare := []int{spareMark}
	whole := make([][]int, len(l), len(l)+1)
	for i, part := range l {
		whole[i] = withSpare(part)
	}
	whole = append(whole, spare)
	given := whole[:len(l)]
	checkTotalCall(t, "JoinRecords", func() ([]int, bool) { return impl.JoinRecords(given) })
	for i, part := range l {
		checkUntouched(t, "JoinRecords", given[i], part)
	}
	if !slices.Equal(whole[len(l)], spare) {
		t.Errorf("JoinRecords wrote behind its argument %v", l)
	}
}

func TestJoinRecordsIsTotal(t *testing.T) {
	lists := anyDigestLists()
	for i, l := range lists {
		checkJoinCall(t, [][]int{l})
		checkJoinCall(t, [][]int{nil, l})
		checkJoinCall(t, [][]int{l, lists[len(lists)-1-i], nil, lists[(i+1)%len(lists)]})
	}
	for _, l := range someJoins() {
		checkJoinCall(t, l)
	}
	checkJoinCall(t, lists)
	checkJoinCall(t, make([][]int, 100000))
}

// TestEncodersOfSharedMemory takes parts that lie behind each other in one array, and parts that are the same list.
func TestEncodersOfSharedMemory(t *testing.T) {
	array := counting(9)
	p := impl.Proof{Commits: array[:3], Challenges: array[3:5], Responses: array[5:7]}
	got, ok := impl.EncodeProof(p)
	checkList(t, "EncodeProof of parts of an array", []int{3, 0, 1, 2, 2, 3, 4, 2, 5, 6}, got, ok)
	got, ok = impl.JoinRecords([][]int{array[:3], array[3:3], array[:2], array[1:4]})
	checkList(t, "JoinRecords of parts of an array", []int{4, 3, 0, 1, 2, 0, 2, 0, 1, 3, 1, 2, 3}, got, ok)
	got, ok = impl.EncodeProof(impl.Proof{Commits: array[:1], Challenges: array[:1], Responses: array[:1]})
	checkList(t, "EncodeProof of one list", []int{1, 0, 1, 0, 1, 0}, got, ok)
	if !slices.Equal(array, counting(9)) {
		t.Errorf("the encoders changed the array to %v", array)
	}
}

// checkOwnResult fails if two results of a function share memory, or if a result changes with the argument, which the function change overwrites.
func checkOwnResult(t *testing.T, name string, call func() ([]int, bool), change func()) {
	t.Helper()
	first, _ := call()
	want := slices.Clone(first)
	second, _ := call()
	overwrite(first)
	third, ok := call()
	change()
	if !ok || !slices.Equal(second, want) || !slices.Equal(third, want) {
		t.Errorf("results of %s share memory", name)
	}
}

func TestEncodersShareNoMemory(t *testing.T) {
	for _, l := range [][]int{nil, {1}, {1, 2, 3}, counting(100)} {
		list := withSpare(l)
		p := impl.Proof{Commits: list}
		checkOwnResult(t, "EncodeProof", func() ([]int, bool) { return impl.EncodeProof(p) }, func() {
			checkUntouched(t, "a change of the result of EncodeProof", list, l)
			overwrite(list)
		})
		lists := [][]int{withSpare(l), withSpare(l)}
		checkOwnResult(t, "JoinRecords", func() ([]int, bool) { return impl.JoinRecords(lists) }, func() {
			checkUntouched(t, "a change of the result of JoinRecords", lists[0], l)
			overwrite(lists[0])
			overwrite(lists[1])
		})
		ciphers := ciphersWithSpare(ciphersOf(l...))
		checkOwnResult(t, "EncodeCiphers", func() ([]int, bool) { return impl.EncodeCiphers(ciphers) }, func() {
			checkCiphersUntouched(t, "a change of the result of EncodeCiphers", ciphers, ciphersOf(l...))
			clear(ciphers[:cap(ciphers)])
		})
	}
	for _, s := range []string{"", "ab", strings.Repeat("x", 399)} {
		checkOwnResult(t, "EncodeText", func() ([]int, bool) { return impl.EncodeText(s) }, func() {})
	}
	for _, s := range []string{"-", "0", "1,2,3", strings.Repeat("7,", 399) + "7"} {
		checkOwnResult(t, "ParseList", func() ([]int, bool) { return impl.ParseList(s) }, func() {})
	}
}

// checkOwnParts fails if the lists of a result share memory with each other, with another result or with the argument.
func checkOwnParts(t *testing.T, name string, record []int, decode func([]int) [][]int) {
	t.Helper()
	given := withSpare(record)
	first, second := decode(given), decode(given)
	want := fmt.Sprint(second)
	for i := range first {
		others := fmt.Sprint(first[:i], first[i+1:])
		overwrite(first[i])
		if got := fmt.Sprint(first[:i], first[i+1:]); got != others {
			t.Errorf("the lists of the result of %s for %v share memory: %s", name, record, got)
		}
	}
	clear(first[:cap(first)])
	checkUntouched(t, "a change of the result of "+name, given, record)
	overwrite(given)
	if got := fmt.Sprint(second); got != want {
		t.Errorf("results of %s for %v share memory", name, record)
	}
}

func TestDecodersShareNoMemory(t *testing.T) {
	for _, p := range someProofs() {
		checkOwnParts(t, "DecodeProof", wantProof(p), func(l []int) [][]int {
			got, _ := impl.DecodeProof(l)
			return [][]int{got.Commits, got.Challenges, got.Responses}
		})
	}
	for _, l := range someJoins()[:100] {
		checkOwnParts(t, "SplitRecords", wantJoined(l), func(l []int) [][]int {
			got, _ := impl.SplitRecords(l)
			return got
		})
	}
	for _, l := range someCiphers() {
		given := withSpare(wantCiphers(l))
		first, _ := impl.DecodeCiphers(given)
		second, _ := impl.DecodeCiphers(given)
		clear(first[:cap(first)])
		checkUntouched(t, "a change of the result of DecodeCiphers", given, wantCiphers(l))
		overwrite(given)
		if !slices.Equal(second, l) {
			t.Errorf("results of DecodeCiphers of %v share memory", l)
		}
	}
}

// TestDecodedTextIsKept checks that a text does not change with the record.
func TestDecodedTextIsKept(t *testing.T) {
	record := wantText("some text")
	s, ok := impl.DecodeText(record)
	overwrite(record)
	if !ok || s != "some text" {
		t.Errorf("DecodeText = %q, %v after a change of its argument", s, ok)
	}
}

// TestRecordFunctionsRepeat checks that a call does not depend on earlier calls.
func TestRecordFunctionsRepeat(t *testing.T) {
	calls := func() string {
		proof, _ := impl.EncodeProof(proofOf([]int{5, 6}, []int{7}, nil))
		decoded, _ := impl.DecodeProof([]int{2, 5, 6, 1, 7, 0})
		ciphers, _ := impl.EncodeCiphers(ciphersOf(4, 8))
		pairs, _ := impl.DecodeCiphers([]int{1, 4, 8})
		text, _ := impl.EncodeText("ab")
		letters, _ := impl.DecodeText([]int{2, 97, 98})
		joined, _ := impl.JoinRecords([][]int{{1, 2}, {}})
		split, _ := impl.SplitRecords([]int{2, 2, 1, 2, 0})
		list, _ := impl.FormatList([]int{1, 20})
		parsed, _ := impl.ParseList("1,20")
		return fmt.Sprint(proof, decoded, ciphers, pairs, text, letters, joined, split, list, parsed)
	}
	want := calls()
	impl.DecodeProof([]int{math.MinInt})
	impl.EncodeText(strings.Repeat("x", 399))
	impl.SplitRecords([]int{maxDigest, 1})
	impl.JoinRecords([][]int{repeated(maxDigest, 398)})
	impl.ParseList("1,2,")
	if got := calls(); got != want {
		t.Errorf("the same calls returned %s and then %s", want, got)
	}
}
