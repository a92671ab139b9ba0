package tests

import (
	"fmt"
	"testing"

	"loop.example/g00878/impl"
)

// Promise 8 for statements of equal logarithms. The expected commits are products of powers by big integers, and the expected counts come from the exponents alone, modulo Q.

func TestSimulateEqualExamples(t *testing.T) {
	for _, c := range []struct{ c, z, a, b int }{{4, 6, 9, 9}, {0, 0, 1, 1}, {0, 5, 9, 13}, {10, 0, 8, 3}} {
		a, b, ok := impl.SimulateEqual(exampleGroup, impl.EqualLog{G1: 2, Y1: 8, G2: 3, Y2: 3}, c.c, c.z)
		if !ok || a != c.a || b != c.b {
			t.Errorf("SimulateEqual of %d and %d = %d, %d, %v; want %d, %d, true", c.c, c.z, a, b, ok, c.a, c.b)
		}
	}
}

// checkSimulatedEqual compares simulated commits with the expected ones. Both belong to accepting transcripts, and for a true statement they are those of a coin.
func checkSimulatedEqual(t *testing.T, gr impl.Group, e impl.EqualLog, c int, z int) {
	t.Helper()
	a, b, ok := impl.SimulateEqual(gr, e, c, z)
	if wantA, wantB := wantChosen(gr, e.G1, e.Y1, c, z), wantChosen(gr, e.G2, e.Y2, c, z); !ok || a != wantA || b != wantB {
		t.Errorf("SimulateEqual(%v, %v, %d, %d) = %d, %d, %v; want %d, %d, true", gr, e, c, z, a, b, ok, wantA, wantB)
	}
	first, _ := impl.IsAccepting(gr, e.G1, e.Y1, impl.Transcript{Commit: a, Challenge: c, Response: z})
	second, _ := impl.IsAccepting(gr, e.G2, e.Y2, impl.Transcript{Commit: b, Challenge: c, Response: z})
	if !first || !second {
		t.Errorf("the commits of SimulateEqual(%v, %v, %d, %d) are not accepting", gr, e, c, z)
	}
}

// TestSimulateEqualOfSmallGroups takes all statements, challenges and responses of groups with 2 or 3 elements.
func TestSimulateEqualOfSmallGroups(t *testing.T) {
	for _, gr := range []impl.Group{{P: 3, Q: 2, G: 2}, {P: 23, Q: 2, G: 22}, {P: 7, Q: 3, G: 2}, {P: 7, Q: 3, G: 4}} {
		elements := elementsIn(gr)
		for _, l := range listsIn(gr.Q, 6) {
			checkSimulatedEqual(t, gr, impl.EqualLog{G1: elements[l[0]], Y1: elements[l[1]], G2: elements[l[2]], Y2: elements[l[3]]}, l[4], l[5])
		}
	}
}

func TestSimulateEqualOfAllGroups(t *testing.T) {
	for _, gr := range allGroups() {
		elements, exps := someElements(gr), someExponents(gr)
		statements := []impl.EqualLog{onesEqual, exampleOf(gr), falseEqualOf(gr), equalOf(gr, 1, gr.G, 1)}
		for i := range 20 {
			statements = append(statements, impl.EqualLog{G1: elements[i], Y1: elements[i+7], G2: elements[i+2], Y2: elements[i+11]}, equalOf(gr, elements[i], elements[i+1], exps[i%len(exps)]))
		}
		for i, e := range statements {
			for _, c := range exps {
				checkSimulatedEqual(t, gr, e, c, someResidues(gr.Q)[i%8])
			}
		}
	}
}

// TestSimulateEqualOfTrueStatements compares the commits with those of the coin that gives the response.
func TestSimulateEqualOfTrueStatements(t *testing.T) {
	for _, gr := range allGroups() {
		for _, secret := range someExponents(gr) {
			for _, c := range someExponents(gr) {
				for _, coin := range []int{0, 1, gr.Q / 2, gr.Q - 1} {
					e := equalOf(gr, gr.G, someElements(gr)[6], secret)
					a, b, ok := impl.SimulateEqual(gr, e, c, wantResponse(gr, coin, c, secret))
					if want := wantImages(gr, rowsOf(e), []int{coin}); !ok || a != want[0] || b != want[1] {
						t.Errorf("SimulateEqual(%v, %v, %d, the response for the coin %d) = %d, %d, %v; want %v, true", gr, e, c, coin, a, b, ok, want)
					}
				}
			}
		}
	}
}

func TestAnswerableChallengesExamples(t *testing.T) {
	false33 := impl.EqualLog{G1: 2, Y1: 8, G2: 3, Y2: 3}
	for _, c := range []struct {
		e    impl.EqualLog
		a, b int
		want int
	}{
		{false33, 1, 1, 1}, {false33, 2, 2, 1}, {false33, 9, 9, 1},
		{exampleEqual, 1, 1, 11}, {exampleEqual, 2, 3, 11}, {exampleEqual, 2, 4, 0}, {exampleEqual, 1, 2, 0},
		{impl.EqualLog{G1: 2, Y1: 1, G2: 3, Y2: 1}, 1, 1, 11}, {impl.EqualLog{G1: 2, Y1: 1, G2: 3, Y2: 1}, 2, 1, 0}, {impl.EqualLog{G1: 2, Y1: 1, G2: 3, Y2: 2}, 1, 1, 1},
		{impl.EqualLog{G1: 2, Y1: 8, G2: 2, Y2: 8}, 9, 9, 11}, {impl.EqualLog{G1: 2, Y1: 8, G2: 2, Y2: 8}, 9, 8, 0},
	} {
		got, ok := impl.AnswerableChallenges(exampleGroup, c.e, c.a, c.b)
		checkInt(t, fmt.Sprintf("AnswerableChallenges(%v, %d, %d)", c.e, c.a, c.b), c.want, got, ok)
	}
}

// equalExps are the exponents of G that give the components of a statement, in their order, and two commits.
type equalExps [6]int

// statement returns the statement and the commits with these exponents.
func (l equalExps) statement(powers []int) (impl.EqualLog, int, int) {
	return impl.EqualLog{G1: powers[l[0]], Y1: powers[l[1]], G2: powers[l[2]], Y2: powers[l[3]]}, powers[l[4]], powers[l[5]]
}

// wantCount returns the number of challenges that one response can answer for both bases.
func (l equalExps) wantCount(q int) int {
	count := 0
	for c := range q {
		for z := range q {
			if l[0]*z%q == (l[4]+c*l[1])%q && l[2]*z%q == (l[5]+c*l[3])%q {
				count++
				break
			}
		}
	}
	return count
}

// checkAnswerable compares a count with the expected one. A false statement has one challenge at most, and a true one has all of them or none.
func checkAnswerable(t *testing.T, gr impl.Group, powers []int, l equalExps) {
	t.Helper()
	e, a, b := l.statement(powers)
	want := l.wantCount(gr.Q)
	got, ok := impl.AnswerableChallenges(gr, e, a, b)
	if !ok || got != want {
		t.Errorf("AnswerableChallenges(%v, %v, %d, %d) = %d, %v; want %d, true", gr, e, a, b, got, ok, want)
	}
	isTrue := l[0]*l[3]%gr.Q == l[2]*l[1]%gr.Q
	if isTrue && got != 0 && got != gr.Q || !isTrue && got > 1 {
		t.Errorf("AnswerableChallenges(%v, %v, %d, %d) = %d; the statement being true is %v", gr, e, a, b, got, isTrue)
	}
}

// TestAnswerableChallengesOfSmallGroups takes all statements and commits of groups with 2 or 3 elements, and of one with 5 those with the generator as G1.
func TestAnswerableChallengesOfSmallGroups(t *testing.T) {
	for _, gr := range []impl.Group{{P: 3, Q: 2, G: 2}, {P: 23, Q: 2, G: 22}, {P: 7, Q: 3, G: 2}, {P: 7, Q: 3, G: 4}, {P: 11, Q: 5, G: 3}} {
		powers := powersIn(gr, gr.G, gr.Q)
		for _, l := range listsIn(gr.Q, 6) {
			if l[0] != 0 && l[2] != 0 && (gr.Q < 5 || l[0] == 1) {
				checkAnswerable(t, gr, powers, equalExps(l))
			}
		}
	}
}

func TestAnswerableChallengesOfCountedGroups(t *testing.T) {
	for _, gr := range countedGroups() {
		powers, some := powersIn(gr, gr.G, gr.Q), []int{0, 1, gr.Q / 2, gr.Q - 1}
		for _, k := range listsIn(4, 5) {
			if k[1] == 0 {
				continue
			}
			first := 1 + (k[0]+k[3])%(gr.Q-1)
			second := some[k[1]]
			// Half of the statements are true.
			for _, y := range []int{some[k[2]], first * some[k[0]] % gr.Q} {
				image := some[k[0]] * second % gr.Q
				checkAnswerable(t, gr, powers, equalExps{first, y, second, image, some[k[3]], some[k[4]]})
			}
		}
	}
}

// TestAnswerableChallengesOfRuns takes the commits of a coin, all of whose challenges are answered for a true statement, and simulated commits, for which one is.
func TestAnswerableChallengesOfRuns(t *testing.T) {
	for _, gr := range countedGroups() {
		for coin := range gr.Q {
			e := exampleOf(gr)
			commits := wantImages(gr, rowsOf(e), []int{coin})
			got, ok := impl.AnswerableChallenges(gr, e, commits[0], commits[1])
			checkInt(t, fmt.Sprintf("AnswerableChallenges(%v, %v, the commits of %d)", gr, e, coin), gr.Q, got, ok)
			wrong := falseEqualOf(gr)
			a, b, _ := impl.SimulateEqual(gr, wrong, coin, gr.Q/2)
			got, ok = impl.AnswerableChallenges(gr, wrong, a, b)
			checkInt(t, fmt.Sprintf("AnswerableChallenges(%v, %v, the commits of the challenge %d)", gr, wrong, coin), 1, got, ok)
		}
	}
}

func TestAnswerableChallengesOfGreatGroups(t *testing.T) {
	for _, gr := range uncountedGroups() {
		for _, e := range []impl.EqualLog{exampleOf(gr), falseEqualOf(gr)} {
			for _, x := range []int{1, gr.G} {
				got, ok := impl.AnswerableChallenges(gr, e, x, x)
				checkNoInt(t, fmt.Sprintf("AnswerableChallenges(%v, %v, %d, %d)", gr, e, x, x), got, ok)
			}
		}
	}
}

// TestAnswerableChallengesOfBaseOne takes statements of which G1 or G2 is 1.
func TestAnswerableChallengesOfBaseOne(t *testing.T) {
	for _, gr := range countedGroups() {
		for _, y := range elementsIn(gr) {
			for _, e := range []impl.EqualLog{{G1: 1, Y1: y, G2: gr.G, Y2: y}, {G1: gr.G, Y1: y, G2: 1, Y2: y}, {G1: 1, Y1: y, G2: 1, Y2: y}, {G1: 1, Y1: 1, G2: gr.G, Y2: y}, {G1: gr.G, Y1: y, G2: 1, Y2: 1}} {
				for _, x := range []int{1, gr.G} {
					got, ok := impl.AnswerableChallenges(gr, e, x, 1)
					checkNoInt(t, fmt.Sprintf("AnswerableChallenges(%v, %v, %d, 1)", gr, e, x), got, ok)
				}
			}
		}
	}
}
