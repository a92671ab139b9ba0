package tests

import (
	"fmt"
	"math"
	"math/big"
	"slices"
	"strings"
	"testing"

	"loop.example/g00878/impl"
)

// Promise 3: texts of digests are read back, challenges are exponents, and derived elements are elements other than 1.
// The expected values come from literal lists and big integers, and in part from a calculation outside this program.

const (
	maxHash   = impl.MaxHash
	maxLabel  = impl.MaxLabel
	maxDigest = impl.MaxDigest

	// maxDerived is the greatest number of challenges or elements of one call.
	maxDerived = 100
)

// hashGroups have the orders 2 and 3, orders of a few hundreds, and great orders.
var hashGroups = append([]impl.Group{exampleGroup, {P: 3, Q: 2, G: 2}, {P: 23, Q: 2, G: 22}, {P: 7, Q: 3, G: 2}, {P: 7, Q: 3, G: 4}}, largeGroups...)

// someLabels are empty labels, labels at the limit, and labels of bytes that are no letters.
var someLabels = []string{"", "h", "hash", "a b", "\x00", "\x00\x00", "\x7f", "\x80", "\xff", "é", "\xff\x00\x80", strings.Repeat("x", maxLabel-1), strings.Repeat("x", maxLabel), strings.Repeat("\xff", maxLabel), strings.Repeat("é", maxLabel/2)}

// longLabels have too many bytes; one of them has few letters.
var longLabels = []string{strings.Repeat("x", maxLabel+1), strings.Repeat("\x00", maxLabel+1), strings.Repeat("é", maxLabel/2+1), strings.Repeat("x", 256), strings.Repeat("x", 100000)}

// notDigests are integers that are not digests.
var notDigests = []int{math.MinInt, math.MinInt + 1, -maxDigest, -1 << 31, -2, -1, maxDigest + 1, maxDigest + 2, 1<<62 + 1<<31, math.MaxInt - 1, math.MaxInt}

// someDigests are the least and greatest digests, and those near the word of the hash.
var someDigests = []int{0, 1, 2, 9, 255, 1<<31 - 2, 1<<31 - 1, 1 << 31, 1<<31 + 1, 1 << 32, 1<<40 + 12345, 1 << 61, maxDigest - 1<<31, maxDigest - 1, maxDigest}

// counting returns the integers from 0 to n-1.
func counting(n int) []int {
	l := make([]int, n)
	for i := range l {
		l[i] = i
	}
	return l
}

// digestLists are lists of digests of several lengths, up to MaxHash.
func digestLists() [][]int {
	lists := [][]int{nil, {}, someDigests, {1, 2, 3}, {3, 2, 1}, {0, 0}, {1 << 31, 1}, {1, 1 << 31}, counting(50), counting(maxHash), repeated(0, maxHash), repeated(maxDigest, maxHash), repeated(5, maxHash-1)}
	for _, d := range someDigests {
		lists = append(lists, []int{d})
	}
	return lists
}

// badDigestLists are lists that are too long, or have one element that is no digest at the start, in the middle or at the end.
func badDigestLists() [][]int {
	lists := [][]int{repeated(0, maxHash+1), repeated(1, maxHash+1), repeated(maxDigest, 2*maxHash), repeated(0, 100000)}
	for _, d := range notDigests {
		lists = append(lists, []int{d}, []int{d, 1, 2}, []int{1, d, 2}, []int{1, 2, d}, append(repeated(0, 300), d))
	}
	return lists
}

// wantHash returns the digest that the document describes, by big integers.
func wantHash(l []int) int {
	words := func(x int) []int { return []int{x % 2147483648, x / 2147483648} }
	all := words(len(l))
	for _, x := range l {
		all = append(all, words(x)...)
	}
	remainder := func(start int, factor int) *big.Int {
		state := big.NewInt(int64(start))
		for _, w := range all {
			state.Mul(state, big.NewInt(int64(factor)))
			state.Add(state, big.NewInt(int64(w)+1))
			state.Mod(state, big.NewInt(2147483647))
		}
		return state
	}
	s, t := remainder(1, 48271), remainder(2, 69621)
	return int(s.Add(s.Mul(s, big.NewInt(2147483648)), t).Int64())
}

// labelled returns the list that is hashed for a label and a list.
func labelled(label string, l ...int) []int {
	whole := []int{len(label)}
	for i := range len(label) {
		whole = append(whole, int(label[i]))
	}
	return append(whole, l...)
}

// inGroup returns P, Q and G of a group, followed by a list.
func inGroup(gr impl.Group, l ...int) []int {
	return append([]int{gr.P, gr.Q, gr.G}, l...)
}

func TestHashConstants(t *testing.T) {
	if maxHash != 400 || maxLabel != 40 || maxDigest != 1<<62-1 {
		t.Error("the limits of chapter 3 are", maxHash, maxLabel, maxDigest)
	}
}

func TestHashIntsExamples(t *testing.T) {
	cases := []struct {
		l    []int
		want int
	}{
		{nil, 182654066*1<<31 + 1104302316},
		{[]int{0}, 827204648425338352},
		{[]int{1}, 827308309608580581},
		{[]int{1, 2, 3}, 1680057116607935807},
		{[]int{3, 2, 1}, 1384293311355115989},
		{[]int{1<<31 - 1}, 827204648425338352},
		{[]int{1 << 31}, 827204650572822001},
		{[]int{1<<31 + 1}, 827308311756064230},
		{[]int{maxDigest, 0, maxDigest}, 892711589172322779},
		{repeated(0, maxHash), 1518275590395067185},
		{repeated(maxDigest, maxHash), 1518275590395067185},
		{counting(maxHash), 2791548606047553661},
	}
	for _, c := range cases {
		got, ok := impl.HashInts(c.l)
		checkInt(t, fmt.Sprintf("HashInts(%v)", c.l), c.want, got, ok)
	}
}

func TestHashInts(t *testing.T) {
	for _, l := range digestLists() {
		got, ok := impl.HashInts(l)
		checkInt(t, fmt.Sprintf("HashInts(%v)", l), wantHash(l), got, ok)
		if got < 0 || got > maxDigest {
			t.Errorf("HashInts(%v) = %d is no digest", l, got)
		}
	}
	for n := range maxHash + 1 {
		got, ok := impl.HashInts(counting(n))
		checkInt(t, fmt.Sprintf("HashInts of %d integers", n), wantHash(counting(n)), got, ok)
	}
}

// TestHashIntsOfDigests hashes digests of digests, which are digests again.
func TestHashIntsOfDigests(t *testing.T) {
	d := 0
	for range 1000 {
		next, ok := impl.HashInts([]int{d, d})
		checkInt(t, fmt.Sprintf("HashInts of %d twice", d), wantHash([]int{d, d}), next, ok)
		d = next
	}
}

func TestHashIntsInvalid(t *testing.T) {
	for _, l := range badDigestLists() {
		got, ok := impl.HashInts(l)
		checkNoInt(t, fmt.Sprintf("HashInts(%v)", l), got, ok)
	}
}

func TestHashLabelledExamples(t *testing.T) {
	cases := []struct {
		label string
		l     []int
		want  int
	}{
		{"", nil, 827204648425338352},
		{"a", nil, 1268714727121999161},
		{"", []int{97}, 3107151343671166102},
		{"", []int{1, 97}, 3676016123677556307},
		{"h", []int{1, 2}, 2261839061961860353},
		{"é", []int{5}, 538220631304547617},
		{"\xff\x00", []int{0}, 2607204816352438536},
		{strings.Repeat("x", maxLabel), nil, 1241271613353839726},
		{strings.Repeat("x", maxLabel), repeated(7, 359), 426672638120241946},
		{"", repeated(7, 399), 1270428551981725971},
	}
	for _, c := range cases {
		got, ok := impl.HashLabelled(c.label, c.l)
		checkInt(t, fmt.Sprintf("HashLabelled(%q, %v)", c.label, c.l), c.want, got, ok)
	}
}

// TestHashLabelled compares the digest with that of the whole list, which must have at most MaxHash elements.
func TestHashLabelled(t *testing.T) {
	for _, label := range someLabels {
		for _, l := range digestLists() {
			whole := labelled(label, l...)
			name := fmt.Sprintf("HashLabelled(%q, %v)", label, l)
			got, ok := impl.HashLabelled(label, l)
			if len(whole) > maxHash {
				checkNoInt(t, name, got, ok)
				continue
			}
			checkInt(t, name, wantHash(whole), got, ok)
			same, ok := impl.HashInts(whole)
			checkInt(t, "HashInts for "+name, got, same, ok)
		}
	}
}

func TestHashLabelledOfAllBytes(t *testing.T) {
	for b := range 256 {
		label := "a" + string([]byte{byte(b)})
		got, ok := impl.HashLabelled(label, []int{3})
		checkInt(t, fmt.Sprintf("HashLabelled(%q, [3])", label), wantHash([]int{2, 97, b, 3}), got, ok)
	}
}

// TestHashLabelledAtLimit takes the longest list for each length of a label, and a list that is longer by one.
func TestHashLabelledAtLimit(t *testing.T) {
	for n := range maxLabel + 1 {
		label := strings.Repeat("m", n)
		fits := repeated(1, maxHash-1-n)
		got, ok := impl.HashLabelled(label, fits)
		checkInt(t, fmt.Sprintf("HashLabelled of %d bytes at the limit", n), wantHash(labelled(label, fits...)), got, ok)
		got, ok = impl.HashLabelled(label, append(fits, 1))
		checkNoInt(t, fmt.Sprintf("HashLabelled of %d bytes above the limit", n), got, ok)
	}
}

func TestHashLabelledInvalid(t *testing.T) {
	for _, label := range longLabels {
		for _, l := range [][]int{nil, {}, {1}, {1, 2, 3}} {
			got, ok := impl.HashLabelled(label, l)
			checkNoInt(t, fmt.Sprintf("HashLabelled(%q, %v)", label, l), got, ok)
		}
	}
	for _, label := range someLabels {
		for _, l := range badDigestLists() {
			got, ok := impl.HashLabelled(label, l)
			checkNoInt(t, fmt.Sprintf("HashLabelled(%q, %v)", label, l), got, ok)
		}
	}
}

// digestTexts are digests with their texts, by hand.
var digestTexts = map[int]string{
	0:                   "0000000000000000",
	1:                   "0000000000000001",
	9:                   "0000000000000009",
	10:                  "000000000000000a",
	15:                  "000000000000000f",
	16:                  "0000000000000010",
	255:                 "00000000000000ff",
	256:                 "0000000000000100",
	0xabcdef:            "0000000000abcdef",
	1 << 31:             "0000000080000000",
	0x0123456789abcdef:  "0123456789abcdef",
	0x0fedcba987654321:  "0fedcba987654321",
	0x1000000000000000:  "1000000000000000",
	0x3ffffffffffffffe:  "3ffffffffffffffe",
	maxDigest:           "3fffffffffffffff",
	0x2aaaaaaaaaaaaaaa:  "2aaaaaaaaaaaaaaa",
	827204648425338352:  "0b7ad23eb9f1b5f0",
	1680057116607935807: "1750c30bd5c8753f",
}

func checkText(t *testing.T, d int, want string) {
	t.Helper()
	if got, ok := impl.DigestText(d); !ok || got != want {
		t.Errorf("DigestText(%d) = %q, %v; want %q, true", d, got, ok, want)
	}
	back, ok := impl.ParseDigest(want)
	checkInt(t, fmt.Sprintf("ParseDigest(%q)", want), d, back, ok)
}

func TestDigestTextExamples(t *testing.T) {
	for d, want := range digestTexts {
		checkText(t, d, want)
	}
}

// TestDigestTextIsReadBack takes all digests of few bits, all of one or two bits, and digests of lists.
func TestDigestTextIsReadBack(t *testing.T) {
	var digests []int
	for d := range 5000 {
		digests = append(digests, d, maxDigest-d)
	}
	for i := range 62 {
		for j := range i + 1 {
			digests = append(digests, 1<<i|1<<j)
		}
	}
	for _, l := range digestLists() {
		d, _ := impl.HashInts(l)
		digests = append(digests, d)
	}
	for _, d := range digests {
		checkText(t, d, fmt.Sprintf("%016x", d))
	}
}

func TestDigestTextInvalid(t *testing.T) {
	for _, d := range notDigests {
		if got, ok := impl.DigestText(d); ok || got != "" {
			t.Errorf("DigestText(%d) = %q, %v; want no text, false", d, got, ok)
		}
	}
}

// TestParseDigestOfAllBytes sets each byte of a text to each value.
func TestParseDigestOfAllBytes(t *testing.T) {
	const digits = "0123456789abcdef"
	for i := range len(digits) {
		for b := range 256 {
			text := []byte("1234567890abcdef")
			text[i] = byte(b)
			digit := strings.IndexByte(digits, byte(b))
			got, ok := impl.ParseDigest(string(text))
			name := fmt.Sprintf("ParseDigest(%q)", text)
			if digit < 0 || i == 0 && digit > 3 {
				checkNoInt(t, name, got, ok)
				continue
			}
			shift := 60 - 4*i
			want := 0x1234567890abcdef&^(15<<shift) | digit<<shift
			checkInt(t, name, want, got, ok)
		}
	}
}

func TestParseDigestInvalid(t *testing.T) {
	texts := []string{"", "0", "ff", "00000000000000fF", "00000000000000FF", "000000000000000A", "3FFFFFFFFFFFFFFF",
		"4000000000000000", "4000000000000001", "7fffffffffffffff", "8000000000000000", "ffffffffffffffff", "10000000000000000",
		"00000000000000g0", "0x000000000000ff", "0X000000000000ff", "00000000000000_f", "0000_0000_0000_f", "000000000000.0ff",
		"+0000000000000ff", "-0000000000000ff", "-000000000000000", " 0000000000000ff", "0000000000000ff ", "0000000 000000ff", "\t0000000000000ff", "00000000000000ff\n",
		"+00000000000000ff", "-00000000000000ff", " 00000000000000ff", "00000000000000ff ", "\x0000000000000000ff", "00000000000000ff\x00",
		"00000000000000é", "０00000000000ff", strings.Repeat("0", 1000), strings.Repeat("f", 100000), strings.Repeat("0", 100000) + "ff"}
	for n := range 40 {
		if n != 16 {
			texts = append(texts, strings.Repeat("0", n), strings.Repeat("1", n), strings.Repeat("f", n))
		}
	}
	for _, text := range texts {
		got, ok := impl.ParseDigest(text)
		checkNoInt(t, fmt.Sprintf("ParseDigest(%q)", text), got, ok)
	}
}

func TestChallengeExamples(t *testing.T) {
	cases := []struct {
		gr    impl.Group
		label string
		l     []int
		want  int
	}{
		{exampleGroup, "c", nil, 8},
		{exampleGroup, "c", []int{1, 2, 3}, 4},
		{exampleGroup, "", []int{maxDigest}, 8},
		{topGroup, "c", nil, 776241713},
		{topGroup, "c", []int{1, 2, 3}, 113992187},
		{topGroup, "", []int{maxDigest}, 751624941},
		{impl.Group{P: 3, Q: 2, G: 2}, "c", nil, 1},
		{impl.Group{P: 3, Q: 2, G: 2}, "c", []int{1, 2, 3}, 0},
		{impl.Group{P: 7, Q: 3, G: 4}, "c", []int{1, 2, 3}, 2},
	}
	for _, c := range cases {
		got, ok := impl.Challenge(c.gr, c.label, c.l)
		checkInt(t, fmt.Sprintf("Challenge(%v, %q, %v)", c.gr, c.label, c.l), c.want, got, ok)
	}
}

// TestChallenge compares the challenge with the digest of the whole list, which must have at most MaxHash elements.
func TestChallenge(t *testing.T) {
	for _, gr := range hashGroups {
		for _, label := range someLabels {
			for _, l := range digestLists() {
				whole := labelled(label, inGroup(gr, l...)...)
				name := fmt.Sprintf("Challenge(%v, %q, %v)", gr, label, l)
				got, ok := impl.Challenge(gr, label, l)
				if len(whole) > maxHash {
					checkNoInt(t, name, got, ok)
					continue
				}
				checkInt(t, name, wantHash(whole)%gr.Q, got, ok)
			}
		}
	}
}

// TestChallengeIsExponent raises the generator to the challenge.
func TestChallengeIsExponent(t *testing.T) {
	for _, gr := range hashGroups {
		for i := range 200 {
			c, _ := impl.Challenge(gr, "exponent", []int{i})
			power, ok := impl.ExpOf(gr, gr.G, c)
			checkInt(t, fmt.Sprintf("ExpOf with a challenge of %v", gr), wantPower(gr.G, c, gr.P), power, ok)
		}
	}
}

// TestChallengeTakesAllExponents shows that every exponent of a small group is a challenge.
func TestChallengeTakesAllExponents(t *testing.T) {
	for _, gr := range smallGroups() {
		seen := map[int]bool{}
		for i := range 60 * gr.Q {
			c, _ := impl.Challenge(gr, "all", []int{i})
			seen[c] = true
		}
		if len(seen) != gr.Q {
			t.Errorf("only %d challenges of %v", len(seen), gr)
		}
	}
}

// longestList returns the length of the longest list that Challenge takes with a label.
func longestList(label string) int {
	return maxHash - 4 - len(label)
}

func TestChallengeAtLimit(t *testing.T) {
	for n := range maxLabel + 1 {
		label := strings.Repeat("m", n)
		fits := repeated(1, longestList(label))
		got, ok := impl.Challenge(topGroup, label, fits)
		checkInt(t, fmt.Sprintf("Challenge of %d bytes at the limit", n), wantHash(labelled(label, inGroup(topGroup, fits...)...))%topGroup.Q, got, ok)
		got, ok = impl.Challenge(topGroup, label, append(fits, 1))
		checkNoInt(t, fmt.Sprintf("Challenge of %d bytes above the limit", n), got, ok)
	}
}

func TestChallengeInvalid(t *testing.T) {
	for _, gr := range badGroups {
		for _, l := range [][]int{nil, {}, {1, 2}} {
			got, ok := impl.Challenge(gr, "c", l)
			checkNoInt(t, fmt.Sprintf("Challenge(%v, c, %v)", gr, l), got, ok)
		}
	}
	for _, gr := range hashGroups {
		for _, label := range longLabels {
			got, ok := impl.Challenge(gr, label, nil)
			checkNoInt(t, fmt.Sprintf("Challenge(%v, %q)", gr, label), got, ok)
		}
		for _, l := range badDigestLists() {
			got, ok := impl.Challenge(gr, "c", l)
			checkNoInt(t, fmt.Sprintf("Challenge(%v, c, %v)", gr, l), got, ok)
		}
	}
}

func checkList(t *testing.T, name string, want []int, got []int, ok bool) {
	t.Helper()
	if !ok || !slices.Equal(got, want) {
		t.Errorf("%s = %v, %v; want %v, true", name, got, ok, want)
	}
}

func TestChallengesExamples(t *testing.T) {
	got, ok := impl.Challenges(exampleGroup, "c", []int{9}, 8)
	checkList(t, "Challenges of the example group", []int{7, 4, 1, 9, 6, 3, 0, 8}, got, ok)
	got, ok = impl.Challenges(topGroup, "c", []int{9}, 8)
	checkList(t, "Challenges of the greatest group", []int{858758677, 125863464, 392967442, 660071420, 927175398, 194280185, 461384163, 728488141}, got, ok)
	got, ok = impl.Challenges(impl.Group{P: 7, Q: 3, G: 4}, "c", []int{9}, 8)
	checkList(t, "Challenges of the group of order 3", []int{0, 2, 1, 0, 2, 1, 0, 2}, got, ok)
}

func TestChallengesAreSingleChallenges(t *testing.T) {
	for _, gr := range hashGroups[:8] {
		for _, label := range []string{"", "\xff\x00", strings.Repeat("x", maxLabel)} {
			for _, l := range [][]int{nil, {}, {0}, {1, 2, 3}, someDigests, repeated(maxDigest, 300), repeated(7, longestList(label)-1)} {
				for _, n := range []int{0, 1, 7, maxDerived} {
					want := make([]int, n)
					for i := range want {
						want[i] = wantHash(labelled(label, inGroup(gr, append(slices.Clone(l), i)...)...)) % gr.Q
					}
					got, ok := impl.Challenges(gr, label, l, n)
					checkList(t, fmt.Sprintf("Challenges(%v, %q, %v, %d)", gr, label, l, n), want, got, ok)
				}
			}
		}
	}
}

// TestChallengesAtLimit takes the longest list that leaves a place for the index, also where no index is needed, and a list that is longer by one.
func TestChallengesAtLimit(t *testing.T) {
	for n := range maxLabel + 1 {
		label := strings.Repeat("m", n)
		fits := repeated(1, longestList(label)-1)
		for _, count := range []int{0, 1, 5} {
			name := fmt.Sprintf("Challenges(%d) of %d bytes", count, n)
			got, ok := impl.Challenges(topGroup, label, fits, count)
			if !ok || len(got) != count {
				t.Errorf("%s at the limit = %v, %v", name, got, ok)
			}
			for i, c := range got {
				want, fine := impl.Challenge(topGroup, label, append(slices.Clone(fits), i))
				checkInt(t, name, want, c, fine)
			}
			got, ok = impl.Challenges(topGroup, label, append(slices.Clone(fits), 1), count)
			checkNoList(t, name+" above the limit", got, ok)
		}
	}
}

func TestChallengesInvalid(t *testing.T) {
	for _, n := range []int{math.MinInt, -100, -1, 101, 102, 1000, 1 << 32, math.MaxInt} {
		got, ok := impl.Challenges(exampleGroup, "c", []int{1}, n)
		checkNoList(t, fmt.Sprintf("Challenges of %d", n), got, ok)
	}
	for _, n := range []int{0, 1, 3, maxDerived} {
		for _, gr := range badGroups {
			got, ok := impl.Challenges(gr, "c", nil, n)
			checkNoList(t, fmt.Sprintf("Challenges(%v, c, nil, %d)", gr, n), got, ok)
		}
		for _, label := range longLabels {
			got, ok := impl.Challenges(exampleGroup, label, nil, n)
			checkNoList(t, fmt.Sprintf("Challenges(%q, nil, %d)", label, n), got, ok)
		}
		for _, l := range badDigestLists() {
			got, ok := impl.Challenges(exampleGroup, "c", l, n)
			checkNoList(t, fmt.Sprintf("Challenges(c, %v, %d)", l, n), got, ok)
		}
	}
}

// wantDerived returns the derived element by big integers, and the number of powers before it that are 1.
func wantDerived(gr impl.Group, label string, k int) (int, int) {
	for c := range 1000 {
		x := 1 + wantHash(labelled(label, inGroup(gr, k, c)...))%(gr.P-1)
		if power := wantPower(x, (gr.P-1)/gr.Q, gr.P); power != 1 {
			return power, c
		}
	}
	return 0, 1000
}

func TestDeriveElementExamples(t *testing.T) {
	cases := []struct {
		gr    impl.Group
		label string
		k     int
		want  int
	}{
		{exampleGroup, "h", 0, 16},
		{exampleGroup, "h", 4, 3},
		{exampleGroup, "", 0, 3},
		{exampleGroup, "h", maxDigest, 16},
		{topGroup, "h", 0, 1919288576},
		{topGroup, "h", 9, 1235140384},
		{topGroup, "", 0, 389037027},
		{impl.Group{P: 7, Q: 3, G: 4}, "h", 0, 4},
		{impl.Group{P: 7, Q: 3, G: 4}, "h", 1, 2},
		{impl.Group{P: 1999999873, Q: 3, G: 564493916}, "h", 1, 564493916},
		{impl.Group{P: 1999999873, Q: 3, G: 564493916}, "h", 39048, 1435505956},
		{impl.Group{P: topPrime, Q: 2, G: topPrime - 1}, "h", 537250, topPrime - 1},
	}
	for _, c := range cases {
		got, ok := impl.DeriveElement(c.gr, c.label, c.k)
		checkInt(t, fmt.Sprintf("DeriveElement(%v, %q, %d)", c.gr, c.label, c.k), c.want, got, ok)
	}
}

// TestDeriveElementTriesOften checks that the examples need several powers: 22 powers are 1 in the last of them.
func TestDeriveElementTriesOften(t *testing.T) {
	cases := []struct {
		gr      impl.Group
		k       int
		skipped int
	}{
		{impl.Group{P: 7, Q: 3, G: 4}, 0, 2},
		{impl.Group{P: 1999999873, Q: 3, G: 564493916}, 39048, 13},
		{impl.Group{P: topPrime, Q: 2, G: topPrime - 1}, 537250, 22},
	}
	for _, c := range cases {
		want, skipped := wantDerived(c.gr, "h", c.k)
		got, ok := impl.DeriveElement(c.gr, "h", c.k)
		checkInt(t, fmt.Sprintf("DeriveElement(%v, h, %d)", c.gr, c.k), want, got, ok)
		if skipped != c.skipped {
			t.Errorf("DeriveElement(%v, h, %d) skips %d powers", c.gr, c.k, skipped)
		}
	}
}

func TestDeriveElement(t *testing.T) {
	for _, gr := range append(smallGroups(), hashGroups...) {
		for _, label := range someLabels {
			for _, k := range someDigests {
				want, _ := wantDerived(gr, label, k)
				got, ok := impl.DeriveElement(gr, label, k)
				name := fmt.Sprintf("DeriveElement(%v, %q, %d)", gr, label, k)
				checkInt(t, name, want, got, ok)
				if is, _ := impl.IsElement(gr, got); !is || got == 1 {
					t.Errorf("%s = %d is no element other than 1", name, got)
				}
			}
		}
	}
}

func TestDeriveElementInvalid(t *testing.T) {
	for _, gr := range badGroups {
		got, ok := impl.DeriveElement(gr, "h", 0)
		checkNoInt(t, fmt.Sprintf("DeriveElement(%v, h, 0)", gr), got, ok)
	}
	for _, gr := range hashGroups {
		for _, label := range longLabels {
			got, ok := impl.DeriveElement(gr, label, 0)
			checkNoInt(t, fmt.Sprintf("DeriveElement(%v, %q, 0)", gr, label), got, ok)
		}
		for _, k := range notDigests {
			got, ok := impl.DeriveElement(gr, "h", k)
			checkNoInt(t, fmt.Sprintf("DeriveElement(%v, h, %d)", gr, k), got, ok)
		}
	}
}

func TestDeriveElementsExamples(t *testing.T) {
	got, ok := impl.DeriveElements(exampleGroup, "h", 10)
	checkList(t, "DeriveElements of the example group", []int{16, 4, 4, 16, 3, 12, 8, 12, 18, 16}, got, ok)
	got, ok = impl.DeriveElements(impl.Group{P: 7, Q: 3, G: 4}, "h", 4)
	checkList(t, "DeriveElements of the group of order 3", []int{4, 2, 4, 2}, got, ok)
}

func TestDeriveElementsAreSingleElements(t *testing.T) {
	for _, gr := range hashGroups {
		for _, label := range someLabels {
			for _, n := range []int{0, 1, 2, maxDerived - 1, maxDerived} {
				want := make([]int, n)
				for k := range want {
					want[k], _ = impl.DeriveElement(gr, label, k)
				}
				got, ok := impl.DeriveElements(gr, label, n)
				checkList(t, fmt.Sprintf("DeriveElements(%v, %q, %d)", gr, label, n), want, got, ok)
			}
		}
	}
}

func TestDeriveElementsInvalid(t *testing.T) {
	for _, n := range []int{math.MinInt, -100, -1, 101, 102, 1000, 1 << 32, math.MaxInt} {
		got, ok := impl.DeriveElements(exampleGroup, "h", n)
		checkNoList(t, fmt.Sprintf("DeriveElements of %d", n), got, ok)
	}
	for _, n := range []int{0, 1, maxDerived} {
		for _, gr := range badGroups {
			got, ok := impl.DeriveElements(gr, "h", n)
			checkNoList(t, fmt.Sprintf("DeriveElements(%v, h, %d)", gr, n), got, ok)
		}
		for _, label := range longLabels {
			got, ok := impl.DeriveElements(exampleGroup, label, n)
			checkNoList(t, fmt.Sprintf("DeriveElements(%q, %d)", label, n), got, ok)
		}
	}
}
