package tests

import (
	"fmt"
	"slices"
	"testing"

	"loop.example/g00878/impl"
)

// Promise 8 for the lists of transcripts. The expected lists come from going through all triples in their order and keeping those that the document describes, so that nothing is sorted.

// checkTranscripts fails unless a call returned the wanted transcripts and true.
func checkTranscripts(t *testing.T, name string, want []impl.Transcript, got []impl.Transcript, ok bool) {
	t.Helper()
	if !ok || !slices.Equal(got, want) {
		t.Errorf("%s = %v, %v; want %v, true", name, got, ok, want)
	}
}

// transcriptsOf returns transcripts with the elements of a list, three by three.
func transcriptsOf(l ...int) []impl.Transcript {
	all := make([]impl.Transcript, len(l)/3)
	for i := range all {
		all[i] = impl.Transcript{Commit: l[3*i], Challenge: l[3*i+1], Response: l[3*i+2]}
	}
	return all
}

// allAccepting returns the accepting transcripts of a small group in their order.
func allAccepting(gr impl.Group, base int, y int) []impl.Transcript {
	bases, images := powersIn(gr, base, gr.Q), powersIn(gr, y, gr.Q)
	return slices.DeleteFunc(triplesIn(gr), func(a impl.Transcript) bool {
		return bases[a.Response] != a.Commit*images[a.Challenge]%gr.P
	})
}

// allRuns returns the transcripts of the prover of a small group in their order.
func allRuns(gr impl.Group, base int, secret int) []impl.Transcript {
	commits := powersIn(gr, base, gr.Q)
	made := map[impl.Transcript]bool{}
	for coin := range gr.Q {
		for e := range gr.Q {
			made[impl.Transcript{Commit: commits[coin], Challenge: e, Response: (coin + e*secret) % gr.Q}] = true
		}
	}
	return slices.DeleteFunc(triplesIn(gr), func(a impl.Transcript) bool { return !made[a] })
}

func TestRealTranscriptsExamples(t *testing.T) {
	least, three := impl.Group{P: 3, Q: 2, G: 2}, impl.Group{P: 7, Q: 3, G: 2}
	for _, c := range []struct {
		gr           impl.Group
		base, secret int
		want         []impl.Transcript
	}{
		{least, 2, 1, transcriptsOf(1, 0, 0, 1, 1, 1, 2, 0, 1, 2, 1, 0)},
		{least, 2, 0, transcriptsOf(1, 0, 0, 1, 1, 0, 2, 0, 1, 2, 1, 1)},
		{three, 2, 2, transcriptsOf(1, 0, 0, 1, 1, 2, 1, 2, 1, 2, 0, 1, 2, 1, 0, 2, 2, 2, 4, 0, 2, 4, 1, 1, 4, 2, 0)},
		{three, 4, 0, transcriptsOf(1, 0, 0, 1, 1, 0, 1, 2, 0, 2, 0, 2, 2, 1, 2, 2, 2, 2, 4, 0, 1, 4, 1, 1, 4, 2, 1)},
		{three, 1, 2, transcriptsOf(1, 0, 0, 1, 0, 1, 1, 0, 2, 1, 1, 0, 1, 1, 1, 1, 1, 2, 1, 2, 0, 1, 2, 1, 1, 2, 2)},
	} {
		got, ok := impl.RealTranscripts(c.gr, c.base, c.secret)
		checkTranscripts(t, fmt.Sprintf("RealTranscripts(%v, %d, %d)", c.gr, c.base, c.secret), c.want, got, ok)
	}
}

func TestSimulatedTranscriptsExamples(t *testing.T) {
	least, three := impl.Group{P: 3, Q: 2, G: 2}, impl.Group{P: 7, Q: 3, G: 2}
	for _, c := range []struct {
		gr      impl.Group
		base, y int
		want    []impl.Transcript
	}{
		{least, 2, 2, transcriptsOf(1, 0, 0, 1, 1, 1, 2, 0, 1, 2, 1, 0)},
		{least, 1, 2, transcriptsOf(1, 0, 0, 1, 0, 1, 2, 1, 0, 2, 1, 1)},
		{three, 2, 4, transcriptsOf(1, 0, 0, 1, 1, 2, 1, 2, 1, 2, 0, 1, 2, 1, 0, 2, 2, 2, 4, 0, 2, 4, 1, 1, 4, 2, 0)},
		{three, 1, 2, transcriptsOf(1, 0, 0, 1, 0, 1, 1, 0, 2, 2, 2, 0, 2, 2, 1, 2, 2, 2, 4, 1, 0, 4, 1, 1, 4, 1, 2)},
	} {
		got, ok := impl.SimulatedTranscripts(c.gr, c.base, c.y)
		checkTranscripts(t, fmt.Sprintf("SimulatedTranscripts(%v, %d, %d)", c.gr, c.base, c.y), c.want, got, ok)
	}
}

// checkSameLists compares both lists for a base and a secret with the expected ones, and with each other.
func checkSameLists(t *testing.T, gr impl.Group, base int, secret int) {
	t.Helper()
	y := wantPower(base, secret, gr.P)
	runs, ok := impl.RealTranscripts(gr, base, secret)
	checkTranscripts(t, fmt.Sprintf("RealTranscripts(%v, %d, %d)", gr, base, secret), allRuns(gr, base, secret), runs, ok)
	simulated, ok := impl.SimulatedTranscripts(gr, base, y)
	checkTranscripts(t, fmt.Sprintf("SimulatedTranscripts(%v, %d, %d)", gr, base, y), allAccepting(gr, base, y), simulated, ok)
	if len(runs) != gr.Q*gr.Q || !slices.Equal(runs, simulated) {
		t.Errorf("in %v, the %d real transcripts for the base %d and the secret %d are not the %d simulated ones", gr, len(runs), base, secret, len(simulated))
	}
}

// TestTranscriptsOfCountedGroups takes all bases and secrets for orders up to 7, and some for the others.
func TestTranscriptsOfCountedGroups(t *testing.T) {
	for _, gr := range countedGroups() {
		bases, secrets := elementsIn(gr), firstOf(gr.Q, gr.Q)
		if gr.Q > 7 {
			bases, secrets = someElements(gr)[:6], []int{0, 1, gr.Q / 2, gr.Q - 1}
		}
		for _, base := range bases {
			for _, secret := range secrets {
				checkSameLists(t, gr, base, secret)
			}
		}
	}
}

// TestSimulatedTranscriptsOfAllImages takes images that are no powers of the base 1, too.
func TestSimulatedTranscriptsOfAllImages(t *testing.T) {
	for _, gr := range countedGroups() {
		for _, base := range []int{1, gr.G} {
			for _, y := range elementsIn(gr) {
				got, ok := impl.SimulatedTranscripts(gr, base, y)
				checkTranscripts(t, fmt.Sprintf("SimulatedTranscripts(%v, %d, %d)", gr, base, y), allAccepting(gr, base, y), got, ok)
			}
		}
	}
}

// TestTranscriptsOfBaseOne shows what the base 1 lacks: the prover has one commit alone, so that the simulated transcripts for an image that is no power of it are other ones. By the document's definition, there are still as many, since each challenge has a response for each coin.
func TestTranscriptsOfBaseOne(t *testing.T) {
	for _, gr := range countedGroups() {
		for _, secret := range []int{0, 1, gr.Q - 1} {
			var want []impl.Transcript
			for e := range gr.Q {
				for z := range gr.Q {
					want = append(want, impl.Transcript{Commit: 1, Challenge: e, Response: z})
				}
			}
			got, ok := impl.RealTranscripts(gr, 1, secret)
			checkTranscripts(t, fmt.Sprintf("RealTranscripts(%v, 1, %d)", gr, secret), want, got, ok)
			simulated, ok := impl.SimulatedTranscripts(gr, 1, 1)
			checkTranscripts(t, fmt.Sprintf("SimulatedTranscripts(%v, 1, 1)", gr), want, simulated, ok)
			other, ok := impl.SimulatedTranscripts(gr, 1, gr.G)
			if !ok || len(other) != len(got) || slices.Equal(other, got) {
				t.Errorf("SimulatedTranscripts(%v, 1, %d) = %v, %v", gr, gr.G, other, ok)
			}
		}
	}
}

// TestTranscriptsAreSimulatedOnes takes the transcripts one by one.
func TestTranscriptsAreSimulatedOnes(t *testing.T) {
	for _, gr := range countedGroups() {
		y := wantPower(gr.G, gr.Q/2, gr.P)
		listed := map[impl.Transcript]bool{}
		l, _ := impl.SimulatedTranscripts(gr, gr.G, y)
		for _, a := range l {
			listed[a] = true
		}
		for e := range gr.Q {
			for z := range gr.Q {
				if a, ok := impl.SimulateKnowledge(gr, gr.G, y, e, z); !ok || !listed[a] {
					t.Errorf("SimulateKnowledge(%v, %d, %d, %d, %d) = %v, %v is not listed", gr, gr.G, y, e, z, a, ok)
				}
			}
		}
		if len(listed) != gr.Q*gr.Q || len(l) != len(listed) {
			t.Errorf("SimulatedTranscripts(%v, %d, %d) has %d elements, %d different ones", gr, gr.G, y, len(l), len(listed))
		}
	}
}

func TestTranscriptsOfGreatGroups(t *testing.T) {
	for _, gr := range uncountedGroups() {
		for _, x := range []int{1, gr.G} {
			for _, e := range []int{0, 1, gr.Q - 1} {
				got, ok := impl.RealTranscripts(gr, x, e)
				checkNoList(t, fmt.Sprintf("RealTranscripts(%v, %d, %d)", gr, x, e), got, ok)
				got, ok = impl.SimulatedTranscripts(gr, gr.G, x)
				checkNoList(t, fmt.Sprintf("SimulatedTranscripts(%v, %d, %d)", gr, gr.G, x), got, ok)
			}
		}
	}
}
