package tests

import (
	"fmt"
	"math/big"
	"slices"
	"testing"

	"loop.example/g00878/impl"
)

// Promise 8: extracted exponents belong to their elements, and real and simulated transcripts are the same list.
// This file covers single transcripts of the proof of knowledge. The expected ones follow the document's equations by big integers.

const maxCounted = impl.MaxCounted

// exampleRun and otherRun are two transcripts of the document's example, with the same coin.
var (
	exampleRun = impl.Transcript{Commit: 9, Challenge: 4, Response: 6}
	otherRun   = impl.Transcript{Commit: 9, Challenge: 1, Response: 8}
)

// countedGroups returns the groups whose transcripts are listed, the greatest order being MaxCounted.
func countedGroups() []impl.Group {
	l := append(allGroups(), impl.Group{P: 1999999777, Q: maxCounted, G: 650807192})
	return slices.DeleteFunc(l, func(gr impl.Group) bool { return gr.Q > maxCounted })
}

// uncountedGroups returns groups whose transcripts are not listed, the least order being 29, the first prime above MaxCounted.
func uncountedGroups() []impl.Group {
	l := append(allGroups(), impl.Group{P: 59, Q: 29, G: 4}, impl.Group{P: 1999999559, Q: 29, G: 344476712})
	return slices.DeleteFunc(l, func(gr impl.Group) bool { return gr.Q <= maxCounted })
}

// isAccepted reports whether a transcript fulfils its equation.
func isAccepted(gr impl.Group, base int, y int, a impl.Transcript) bool {
	return wantPower(base, a.Response, gr.P) == wantProduct(gr, []int{a.Commit, y}, []int{1, a.Challenge})
}

// wantSimulated returns the transcript with a challenge and a response.
func wantSimulated(gr impl.Group, base int, y int, e int, z int) impl.Transcript {
	return impl.Transcript{Commit: wantChosen(gr, base, y, e, z), Challenge: e, Response: z}
}

// wantRun returns the transcript of the prover with a secret and a coin.
func wantRun(gr impl.Group, base int, secret int, coin int, e int) impl.Transcript {
	return impl.Transcript{Commit: wantPower(base, coin, gr.P), Challenge: e, Response: wantResponse(gr, coin, e, secret)}
}

// wantQuotient returns the exponent by which the difference of two challenges is multiplied to the difference of two responses, and whether the challenges differ.
func wantQuotient(gr impl.Group, c int, z int, otherC int, otherZ int) (int, bool) {
	q := big.NewInt(int64(gr.Q))
	inverse := new(big.Int).ModInverse(new(big.Int).Mod(big.NewInt(int64(c-otherC)), q), q)
	if inverse == nil {
		return 0, false
	}
	x := inverse.Mul(inverse, big.NewInt(int64(z-otherZ)))
	return int(x.Mod(x, q).Int64()), true
}

// triplesIn returns all transcripts of a small group in their order, accepting ones and others.
func triplesIn(gr impl.Group) []impl.Transcript {
	var all []impl.Transcript
	for _, x := range elementsIn(gr) {
		for e := range gr.Q {
			for z := range gr.Q {
				all = append(all, impl.Transcript{Commit: x, Challenge: e, Response: z})
			}
		}
	}
	return all
}

// checkTranscript fails unless a call returned the wanted transcript and true.
func checkTranscript(t *testing.T, name string, want impl.Transcript, got impl.Transcript, ok bool) {
	t.Helper()
	if !ok || got != want {
		t.Errorf("%s = %v, %v; want %v, true", name, got, ok, want)
	}
}

func TestExtractConstants(t *testing.T) {
	if maxCounted != 23 {
		t.Error("MaxCounted is", maxCounted)
	}
}

func TestRespondToExamples(t *testing.T) {
	for _, c := range []struct {
		gr                    impl.Group
		secret, coin, e, want int
	}{
		{exampleGroup, 3, 5, 4, 6}, {exampleGroup, 3, 5, 1, 8}, {exampleGroup, 3, 5, 0, 5}, {exampleGroup, 3, 0, 4, 1}, {exampleGroup, 0, 5, 4, 5}, {exampleGroup, 0, 0, 0, 0},
		{exampleGroup, 10, 10, 10, 0}, {exampleGroup, 10, 0, 1, 10}, {exampleGroup, 3, 10, 4, 0},
		{impl.Group{P: 3, Q: 2, G: 2}, 1, 1, 1, 0}, {impl.Group{P: 3, Q: 2, G: 2}, 1, 0, 1, 1}, {topGroup, 123456789, 987654321, 999999190, 864197532},
	} {
		got, ok := impl.RespondTo(c.gr, c.secret, c.coin, c.e)
		checkInt(t, fmt.Sprintf("RespondTo(%v, %d, %d, %d)", c.gr, c.secret, c.coin, c.e), c.want, got, ok)
	}
}

// checkRun compares a response with the expected one and fails unless the transcript with it is accepting.
func checkRun(t *testing.T, gr impl.Group, base int, secret int, coin int, e int) {
	t.Helper()
	want := wantRun(gr, base, secret, coin, e)
	z, ok := impl.RespondTo(gr, secret, coin, e)
	if !ok || z != want.Response {
		t.Errorf("RespondTo(%v, %d, %d, %d) = %d, %v; want %d, true", gr, secret, coin, e, z, ok, want.Response)
	}
	y := wantPower(base, secret, gr.P)
	if accepting, ok := impl.IsAccepting(gr, base, y, want); !accepting || !ok {
		t.Errorf("IsAccepting(%v, %d, %d, %v) = %v, %v; want true, true", gr, base, y, want, accepting, ok)
	}
}

func TestRunsOfSmallGroups(t *testing.T) {
	for _, gr := range smallGroups() {
		if gr.Q > 13 {
			continue
		}
		for _, l := range listsIn(gr.Q, 3) {
			checkRun(t, gr, gr.G, l[0], l[1], l[2])
		}
	}
}

func TestRunsOfAllGroups(t *testing.T) {
	for _, gr := range allGroups() {
		for _, base := range someElements(gr)[:7] {
			for _, secret := range someExponents(gr) {
				for i, e := range someExponents(gr) {
					checkRun(t, gr, base, secret, someResidues(gr.Q)[i], e)
				}
			}
		}
	}
}

func TestSimulateKnowledgeExamples(t *testing.T) {
	least := impl.Group{P: 3, Q: 2, G: 2}
	for _, c := range []struct {
		gr            impl.Group
		base, y, e, z int
		want          int
	}{
		{exampleGroup, 2, 8, 4, 6, 9}, {exampleGroup, 2, 8, 1, 8, 9}, {exampleGroup, 2, 8, 0, 0, 1}, {exampleGroup, 2, 8, 0, 3, 8}, {exampleGroup, 2, 8, 1, 0, 3},
		{exampleGroup, 1, 8, 4, 6, 12}, {exampleGroup, 3, 4, 10, 10, 9}, {exampleGroup, 2, 1, 10, 3, 8}, {exampleGroup, 1, 1, 10, 10, 1},
		{least, 2, 2, 1, 0, 2}, {least, 2, 2, 1, 1, 1}, {topGroup, 4, 962152726, 999999190, 500000000, 1789170300},
	} {
		got, ok := impl.SimulateKnowledge(c.gr, c.base, c.y, c.e, c.z)
		want := impl.Transcript{Commit: c.want, Challenge: c.e, Response: c.z}
		checkTranscript(t, fmt.Sprintf("SimulateKnowledge(%v, %d, %d, %d, %d)", c.gr, c.base, c.y, c.e, c.z), want, got, ok)
	}
}

// checkSimulated compares a simulated transcript with the expected one, which must be accepting.
func checkSimulated(t *testing.T, gr impl.Group, base int, y int, e int, z int) {
	t.Helper()
	want := wantSimulated(gr, base, y, e, z)
	got, ok := impl.SimulateKnowledge(gr, base, y, e, z)
	if !ok || got != want {
		t.Errorf("SimulateKnowledge(%v, %d, %d, %d, %d) = %v, %v; want %v, true", gr, base, y, e, z, got, ok, want)
	}
	if accepting, ok := impl.IsAccepting(gr, base, y, got); !accepting || !ok || !isAccepted(gr, base, y, got) {
		t.Errorf("IsAccepting(%v, %d, %d, %v) = %v, %v; want true, true", gr, base, y, got, accepting, ok)
	}
}

// TestSimulateKnowledgeOfSmallGroups takes all bases, images, challenges and responses of groups with at most 7 elements.
func TestSimulateKnowledgeOfSmallGroups(t *testing.T) {
	for _, gr := range smallGroups() {
		if gr.Q > 7 {
			continue
		}
		elements := elementsIn(gr)
		for _, l := range listsIn(gr.Q, 4) {
			checkSimulated(t, gr, elements[l[0]], elements[l[1]], l[2], l[3])
		}
	}
}

func TestSimulateKnowledgeOfAllGroups(t *testing.T) {
	for _, gr := range allGroups() {
		some := someElements(gr)
		for i, base := range some[:7] {
			for k, y := range some[:7] {
				for m, e := range someExponents(gr) {
					checkSimulated(t, gr, base, y, e, someResidues(gr.Q)[(i+k+m)%8])
				}
			}
		}
	}
}

// checkAccepting compares a verdict on a transcript with its equation.
func checkAccepting(t *testing.T, gr impl.Group, base int, y int, a impl.Transcript) {
	t.Helper()
	want := isAccepted(gr, base, y, a)
	if got, ok := impl.IsAccepting(gr, base, y, a); !ok || got != want {
		t.Errorf("IsAccepting(%v, %d, %d, %v) = %v, %v; want %v, true", gr, base, y, a, got, ok, want)
	}
}

func TestIsAcceptingExamples(t *testing.T) {
	for _, c := range []struct {
		base, y int
		a       impl.Transcript
		want    bool
	}{
		{2, 8, exampleRun, true}, {2, 8, otherRun, true}, {2, 8, impl.Transcript{Commit: 1}, true}, {2, 8, impl.Transcript{Commit: 8, Response: 3}, true},
		{2, 8, impl.Transcript{Commit: 9, Challenge: 4, Response: 7}, false}, {2, 8, impl.Transcript{Commit: 9, Challenge: 3, Response: 6}, false}, {2, 8, impl.Transcript{Commit: 4, Challenge: 4, Response: 6}, false}, {2, 8, impl.Transcript{Commit: 2}, false},
		{2, 3, exampleRun, false}, {3, 8, exampleRun, false}, {1, 8, exampleRun, false}, {2, 1, exampleRun, false},
		{1, 1, impl.Transcript{Commit: 1, Challenge: 7, Response: 9}, true}, {1, 1, impl.Transcript{Commit: 2, Challenge: 7, Response: 9}, false}, {1, 8, impl.Transcript{Commit: 12, Challenge: 4, Response: 6}, true},
	} {
		got, ok := impl.IsAccepting(exampleGroup, c.base, c.y, c.a)
		checkVerdict(t, fmt.Sprintf("IsAccepting(%d, %d, %v)", c.base, c.y, c.a), c.want, got, ok)
	}
}

// TestIsAcceptingOfSmallGroups takes all transcripts for all bases and images of groups with at most 5 elements.
func TestIsAcceptingOfSmallGroups(t *testing.T) {
	for _, gr := range smallGroups() {
		if gr.Q > 5 {
			continue
		}
		triples := triplesIn(gr)
		for _, l := range listsIn(gr.Q, 2) {
			elements := elementsIn(gr)
			for _, a := range triples {
				checkAccepting(t, gr, elements[l[0]], elements[l[1]], a)
			}
		}
	}
}

// TestIsAcceptingOfChangedTranscripts replaces each component of an accepting transcript by others.
func TestIsAcceptingOfChangedTranscripts(t *testing.T) {
	for _, gr := range allGroups() {
		exps, elements := someResidues(gr.Q), someElements(gr)
		for i, base := range elements[:6] {
			for k, y := range elements[:6] {
				right := wantSimulated(gr, base, y, exps[i+4], exps[k+9])
				checkAccepting(t, gr, base, y, right)
				for m := range 8 {
					checkAccepting(t, gr, base, y, impl.Transcript{Commit: elements[m], Challenge: right.Challenge, Response: right.Response})
					checkAccepting(t, gr, base, y, impl.Transcript{Commit: right.Commit, Challenge: exps[m], Response: right.Response})
					checkAccepting(t, gr, base, y, impl.Transcript{Commit: right.Commit, Challenge: right.Challenge, Response: exps[m]})
					checkAccepting(t, gr, elements[m], y, right)
					checkAccepting(t, gr, base, elements[m], right)
				}
			}
		}
	}
}

func TestExtractKnowledgeExamples(t *testing.T) {
	run := func(commit int, e int, z int) impl.Transcript {
		return impl.Transcript{Commit: commit, Challenge: e, Response: z}
	}
	for _, c := range []struct {
		base, y int
		a, b    impl.Transcript
		want    int
	}{
		{2, 8, exampleRun, otherRun, 3}, {2, 8, otherRun, exampleRun, 3}, {2, 8, run(9, 0, 5), otherRun, 3}, {2, 8, run(9, 0, 5), run(9, 10, 2), 3},
		{2, 1, run(9, 0, 5), run(9, 7, 5), 0}, {2, 8, run(1, 0, 0), run(1, 1, 3), 3}, {1, 1, run(1, 0, 0), run(1, 1, 9), 9}, {1, 1, run(1, 2, 5), run(1, 7, 5), 0},
	} {
		got, ok := impl.ExtractKnowledge(exampleGroup, c.base, c.y, c.a, c.b)
		checkInt(t, fmt.Sprintf("ExtractKnowledge(%d, %d, %v, %v)", c.base, c.y, c.a, c.b), c.want, got, ok)
	}
}

// TestExtractKnowledgeRefuses takes transcripts that have other commits or the same challenge, or of which one or both are not accepting.
func TestExtractKnowledgeRefuses(t *testing.T) {
	wrong := impl.Transcript{Commit: 9, Challenge: 2, Response: 1}
	for _, c := range []struct {
		name string
		a, b impl.Transcript
	}{
		{"the same", exampleRun, exampleRun},
		{"other commits", exampleRun, impl.Transcript{Commit: 1, Challenge: 1, Response: 3}},
		{"other commits and the same challenge", exampleRun, impl.Transcript{Commit: 1, Challenge: 4, Response: 1}},
		{"the same challenge, not accepting", exampleRun, impl.Transcript{Commit: 9, Challenge: 4, Response: 7}},
		{"not accepting", exampleRun, wrong},
		{"both not accepting", impl.Transcript{Commit: 9, Challenge: 3, Response: 1}, wrong},
		{"both responses changed by the same", impl.Transcript{Commit: 9, Challenge: 4, Response: 7}, impl.Transcript{Commit: 9, Challenge: 1, Response: 9}},
		{"both commits changed to the same", impl.Transcript{Commit: 4, Challenge: 4, Response: 6}, impl.Transcript{Commit: 4, Challenge: 1, Response: 8}},
		{"zero", impl.Transcript{}, impl.Transcript{}},
	} {
		got, ok := impl.ExtractKnowledge(exampleGroup, 2, 8, c.a, c.b)
		checkNoInt(t, "ExtractKnowledge of "+c.name, got, ok)
		got, ok = impl.ExtractKnowledge(exampleGroup, 2, 8, c.b, c.a)
		checkNoInt(t, "ExtractKnowledge of "+c.name+" in the other order", got, ok)
	}
	got, ok := impl.ExtractKnowledge(exampleGroup, 2, 3, exampleRun, otherRun)
	checkNoInt(t, "ExtractKnowledge for another image", got, ok)
	got, ok = impl.ExtractKnowledge(exampleGroup, 3, 8, exampleRun, otherRun)
	checkNoInt(t, "ExtractKnowledge for another base", got, ok)
}

// checkExtraction fails unless an exponent is extracted exactly from two accepting transcripts of the described form.
func checkExtraction(t *testing.T, gr impl.Group, base int, y int, a impl.Transcript, b impl.Transcript, accepted bool) {
	t.Helper()
	want, ok := wantQuotient(gr, a.Challenge, a.Response, b.Challenge, b.Response)
	if !ok || !accepted || a.Commit != b.Commit {
		want, ok = 0, false
	}
	got, fine := impl.ExtractKnowledge(gr, base, y, a, b)
	if fine != ok || got != want {
		t.Errorf("ExtractKnowledge(%v, %d, %d, %v, %v) = %d, %v; want %d, %v", gr, base, y, a, b, got, fine, want, ok)
	}
	if fine && wantPower(base, got, gr.P) != y {
		t.Errorf("%d, extracted from %v and %v, is not the exponent of %d to the base %d in %v", got, a, b, y, base, gr)
	}
}

// TestExtractKnowledgeOfAllPairs takes all pairs of transcripts, accepting ones and others, for all bases and images of groups with at most 3 elements, and for some of one with 5.
func TestExtractKnowledgeOfAllPairs(t *testing.T) {
	for _, gr := range []impl.Group{{P: 3, Q: 2, G: 2}, {P: 23, Q: 2, G: 22}, {P: 7, Q: 3, G: 2}, {P: 7, Q: 3, G: 4}, {P: 13, Q: 3, G: 9}, {P: 11, Q: 5, G: 3}} {
		triples, elements := triplesIn(gr), elementsIn(gr)
		for _, base := range elements[:min(gr.Q, 3)] {
			for _, y := range elements {
				accepted := make([]bool, len(triples))
				for i, a := range triples {
					accepted[i] = isAccepted(gr, base, y, a)
				}
				for i, a := range triples {
					for k, b := range triples {
						checkExtraction(t, gr, base, y, a, b, accepted[i] && accepted[k])
					}
				}
			}
		}
	}
}

// TestExtractKnowledgeOfAllRuns takes, for groups with at most 7 elements, the runs with all bases, secrets and coins and two different challenges.
func TestExtractKnowledgeOfAllRuns(t *testing.T) {
	for _, gr := range smallGroups() {
		if gr.Q > 7 {
			continue
		}
		for _, base := range elementsIn(gr) {
			for _, l := range listsIn(gr.Q, 4) {
				if l[2] != l[3] {
					checkExtractedRun(t, gr, base, l[0], l[1], l[2], l[3])
				}
			}
		}
	}
}

// checkExtractedRun fails unless the secret is extracted from two transcripts of the prover with the same coin and different challenges.
func checkExtractedRun(t *testing.T, gr impl.Group, base int, secret int, coin int, e int, other int) {
	t.Helper()
	a, b := wantRun(gr, base, secret, coin, e), wantRun(gr, base, secret, coin, other)
	if got, ok := impl.ExtractKnowledge(gr, base, wantPower(base, secret, gr.P), a, b); !ok || got != secret {
		t.Errorf("ExtractKnowledge(%v, %d, the image of %d, %v, %v) = %d, %v", gr, base, secret, a, b, got, ok)
	}
}

func TestExtractKnowledgeOfAllGroups(t *testing.T) {
	for _, gr := range allGroups() {
		exps := someResidues(gr.Q)
		for _, base := range someElements(gr)[:6] {
			for i, secret := range exps[:8] {
				for k, e := range exps[:8] {
					for _, other := range []int{0, (e + 1) % gr.Q, (e + gr.Q - 1) % gr.Q, exps[9+k]} {
						coin := exps[(i+k)%10]
						if e != other {
							checkExtractedRun(t, gr, base, secret, coin, e, other)
						}
						y, a := wantPower(base, secret, gr.P), wantRun(gr, base, secret, coin, e)
						checkExtraction(t, gr, base, y, a, wantRun(gr, base, secret, (coin+1)%gr.Q, other), true)
						wrong := impl.Transcript{Commit: a.Commit, Challenge: other, Response: (a.Response + 1) % gr.Q}
						checkExtraction(t, gr, base, y, a, wrong, isAccepted(gr, base, y, wrong))
						checkExtraction(t, gr, base, y, wrong, a, isAccepted(gr, base, y, wrong))
					}
				}
			}
		}
	}
}
