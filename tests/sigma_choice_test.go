package tests

import (
	"fmt"
	"slices"
	"testing"

	"loop.example/g00878/impl"
)

// Promise 7 for the proofs of one of several statements.

// componentsOf returns the components of statements in order.
func componentsOf(l []impl.EqualLog) []int {
	var components []int
	for _, e := range l {
		components = append(components, e.G1, e.Y1, e.G2, e.Y2)
	}
	return components
}

// wantChosen returns a commit that a challenge and a response were chosen for. The power with Q - c is the inverse of the one with c.
func wantChosen(gr impl.Group, g int, y int, c int, z int) int {
	return wantProduct(gr, []int{g, y}, []int{z, gr.Q - c})
}

// wantOneOf returns the proof of one of several statements.
func wantOneOf(gr impl.Group, label string, l []impl.EqualLog, which int, secret int, coins []int) impl.Proof {
	var p impl.Proof
	others, rest, w := 0, coins, coins[len(coins)-1]
	for i, e := range l {
		if i == which {
			p.Commits = append(p.Commits, wantPower(e.G1, w, gr.P), wantPower(e.G2, w, gr.P))
			p.Challenges, p.Responses = append(p.Challenges, -1), append(p.Responses, -1)
			continue
		}
		c, z := rest[0], rest[1]
		rest, others = rest[2:], others+c
		p.Commits = append(p.Commits, wantChosen(gr, e.G1, e.Y1, c, z), wantChosen(gr, e.G2, e.Y2, c, z))
		p.Challenges, p.Responses = append(p.Challenges, c), append(p.Responses, z)
	}
	e := wantChallenge(gr, label, append(componentsOf(l), p.Commits...)...)
	p.Challenges[which] = ((e-others)%gr.Q + gr.Q) % gr.Q
	p.Responses[which] = wantResponse(gr, w, p.Challenges[which], secret)
	return p
}

// someChoice returns n statements of which one is true for a secret. Most of the others are false.
func someChoice(gr impl.Group, n int, which int, secret int) []impl.EqualLog {
	elements := someElements(gr)
	l := make([]impl.EqualLog, n)
	for i := range l {
		row := elements[1+4*i+n:]
		l[i] = impl.EqualLog{G1: row[0], Y1: row[1], G2: row[2], Y2: row[3]}
	}
	l[which] = equalOf(gr, l[which].G1, l[which].G2, secret)
	return l
}

// checkOneOf compares a proof of one of several statements with the expected one and verifies it.
func checkOneOf(t *testing.T, gr impl.Group, label string, l []impl.EqualLog, which int, secret int, coins []int) {
	t.Helper()
	name := fmt.Sprintf("OneOf(%v, %q, %v, %d, %d, %v)", gr, label, l, which, secret, coins)
	p, ok := impl.ProveOneOf(gr, label, l, which, secret, coins)
	if l[which] != equalOf(gr, l[which].G1, l[which].G2, secret) {
		checkNone(t, "Prove"+name, p, ok)
		return
	}
	checkProof(t, "Prove"+name, wantOneOf(gr, label, l, which, secret, coins), p, ok)
	accepted, ok := impl.VerifyOneOf(gr, label, l, p)
	checkVerdict(t, "Verify"+name, true, accepted, ok)
}

func TestProveOneOfExamples(t *testing.T) {
	three := []impl.EqualLog{exampleEqual, {G1: 4, Y1: 1, G2: 1, Y2: 6}, {G1: 2, Y1: 2, G2: 9, Y2: 9}}
	least := impl.Group{P: 3, Q: 2, G: 2}
	for _, c := range []struct {
		gr            impl.Group
		label         string
		l             []impl.EqualLog
		which, secret int
		coins         []int
		want          impl.Proof
	}{
		{exampleGroup, "y", []impl.EqualLog{falseEqual, exampleEqual}, 1, 3, []int{1, 2, 3}, proofOf([]int{9, 3, 8, 4}, []int{1, 10}, []int{2, 0})},
		{exampleGroup, "y", []impl.EqualLog{exampleEqual, falseEqual}, 0, 3, []int{1, 2, 3}, proofOf([]int{8, 4, 9, 3}, []int{2, 1}, []int{9, 2})},
		{exampleGroup, "y", []impl.EqualLog{exampleEqual}, 0, 3, []int{3}, proofOf([]int{8, 4}, []int{9}, []int{8})},
		{exampleGroup, "three", three, 2, 1, []int{1, 2, 3, 4, 5}, proofOf([]int{12, 8, 3, 18, 9, 8}, []int{1, 3, 10}, []int{2, 4, 4})},
		{exampleGroup, "three", three, 0, 3, []int{1, 2, 3, 4, 5}, proofOf([]int{9, 13, 16, 4, 2, 9}, []int{8, 1, 3}, []int{7, 2, 4})},
		{least, "", []impl.EqualLog{{G1: 2, Y1: 2, G2: 2, Y2: 2}, {G1: 2, Y1: 1, G2: 2, Y2: 2}}, 0, 1, []int{1, 0, 1}, proofOf([]int{2, 2, 1, 2}, []int{0, 1}, []int{1, 0})},
		{topGroup, "top", []impl.EqualLog{{G1: 4, Y1: 16, G2: 64, Y2: 256}, {G1: 4, Y1: 1024, G2: 16, Y2: 1048576}}, 1, 5, []int{999999190, 123456789, 987654321}, proofOf([]int{1394454935, 1957717947, 419178885, 1692249788}, []int{999999190, 526353238}, []int{123456789, 619422938})},
	} {
		got, ok := impl.ProveOneOf(c.gr, c.label, c.l, c.which, c.secret, c.coins)
		checkProof(t, fmt.Sprintf("ProveOneOf(%v, %q, %v, %d, %d, %v)", c.gr, c.label, c.l, c.which, c.secret, c.coins), c.want, got, ok)
		accepted, ok := impl.VerifyOneOf(c.gr, c.label, c.l, got)
		checkVerdict(t, fmt.Sprintf("VerifyOneOf(%v, %q, %v, %v)", c.gr, c.label, c.l, got), true, accepted, ok)
	}
}

// TestOneOfOfAllGroups takes each number of statements with each place of the true one.
func TestOneOfOfAllGroups(t *testing.T) {
	for i, gr := range allGroups() {
		for n := 1; n <= maxRows; n++ {
			label := someLabels[(i+n)%len(someLabels)]
			for which := range n {
				for _, secret := range someExponents(gr)[:5] {
					l := someChoice(gr, n, which, secret)
					for _, coins := range exponentLists(gr, 2*n-1) {
						checkOneOf(t, gr, label, l, which, secret, coins)
					}
				}
			}
		}
	}
}

// TestOneOfTrueForOtherPlaces takes statements of which several are true, and places and secrets for which one is not.
func TestOneOfTrueForOtherPlaces(t *testing.T) {
	for _, gr := range allGroups() {
		for n := 1; n <= 4; n++ {
			l := someChoice(gr, n, n-1, 1)
			l[0] = equalOf(gr, gr.G, l[0].G2, 0)
			coins := someResidues(gr.Q)[n : 3*n-1]
			for which := range n {
				for _, secret := range someExponents(gr) {
					checkOneOf(t, gr, "places", l, which, secret, coins)
				}
			}
		}
	}
}

// TestOneOfTheSame takes the same statement several times, and statements of the element 1 alone, which are true for every secret.
func TestOneOfTheSame(t *testing.T) {
	for _, gr := range allGroups() {
		for _, secret := range someExponents(gr) {
			for _, e := range []impl.EqualLog{{G1: 1, Y1: 1, G2: 1, Y2: 1}, equalOf(gr, gr.G, gr.G, secret), equalOf(gr, 1, gr.G, secret), equalOf(gr, gr.G, 1, secret)} {
				for _, n := range []int{1, 2, maxRows} {
					for _, which := range []int{0, n / 2, n - 1} {
						checkOneOf(t, gr, "the same", slices.Repeat([]impl.EqualLog{e}, n), which, secret, firstOf(gr.Q, 2*n-1))
					}
				}
			}
		}
	}
}

func TestOneOfOfAllLabels(t *testing.T) {
	for _, gr := range sigmaGroups {
		for i, label := range someLabels {
			n := 1 + i%maxRows
			checkOneOf(t, gr, label, someChoice(gr, n, i%n, gr.Q-1), i%n, gr.Q-1, firstOf(gr.Q, 2*n-1))
		}
	}
}

// TestOneOfOfSmallGroups takes all pairs of statements, places, secrets and coins of the group with two elements, and all single ones of the group with three.
func TestOneOfOfSmallGroups(t *testing.T) {
	two, three := impl.Group{P: 3, Q: 2, G: 2}, impl.Group{P: 7, Q: 3, G: 2}
	statement := func(gr impl.Group, l []int) impl.EqualLog {
		elements := elementsIn(gr)
		return impl.EqualLog{G1: elements[l[0]], Y1: elements[l[1]], G2: elements[l[2]], Y2: elements[l[3]]}
	}
	for _, l := range listsIn(2, 13) {
		checkOneOf(t, two, "pair", []impl.EqualLog{statement(two, l), statement(two, l[4:])}, l[8], l[9], l[10:])
	}
	for _, l := range listsIn(3, 6) {
		checkOneOf(t, three, "single", []impl.EqualLog{statement(three, l)}, 0, l[4], l[5:])
	}
}

// TestOneOfOneHasCommitsOfEqual compares the Commits for one statement with those of ProveEqual. The challenge is another one, since it is for the components in another order.
func TestOneOfOneHasCommitsOfEqual(t *testing.T) {
	for _, gr := range allGroups() {
		for _, secret := range someExponents(gr) {
			e := equalOf(gr, gr.G, someElements(gr)[2], secret)
			single, ok := impl.ProveOneOf(gr, "one", []impl.EqualLog{e}, 0, secret, []int{1})
			equal, is := impl.ProveEqual(gr, "one", e, secret, 1)
			checkList(t, fmt.Sprintf("Commits of ProveOneOf of one statement %v in %v", e, gr), equal.Commits, single.Commits, ok && is)
		}
	}
}
