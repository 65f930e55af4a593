package equalproof_test

import (
	"math/rand/v2"
	"slices"
	"testing"

	"equalproof/api"
	"equalproof/equalproof"
)

// waysToHold: all classes that are sound and with which a problem holds.
func waysToHold(t *testing.T, p api.Problem) [][]int {
	t.Helper()
	var ways [][]int
	eachClasses(len(p.Terms), func(classes []int) {
		if soundByNames(p.Terms, classes) && !slices.ContainsFunc(p.Clauses, func(clause []api.Lit) bool { return !holdsWith(clause, classes) }) {
			ways = append(ways, classes)
		}
	})
	return ways
}

func holdsWith(clause []api.Lit, classes []int) bool {
	return slices.ContainsFunc(clause, func(lit api.Lit) bool {
		return lit.Not != (classes[lit.A] == classes[lit.B])
	})
}

// What right steps tell holds with all classes with which the problem does.
func TestRightStepsTellWhatHolds(t *testing.T) {
	r := rand.New(rand.NewPCG(8, 1))
	shown := 0
	for range 1500 {
		count := 1 + r.IntN(5)
		p := api.Problem{Terms: someTerms(r, count), Clauses: someClauses(r, count)}
		ways := waysToHold(t, p)
		steps := someSteps(r, p, 40)
		for n := range steps {
			lits, _, e := equalproof.Clause(p, steps[:n+1])
			if e != api.OK {
				break
			}
			for _, classes := range ways {
				if !holdsWith(lits, classes) {
					t.Fatalf("P8: %v hold with %v, but %s, told by %v, does not", p, classes, toldLits(lits), steps[:n+1])
				}
			}
			if _, e := equalproof.Check(p, steps[:n+1]); e == api.OK {
				shown++
				if len(ways) > 0 {
					t.Fatalf("P8: Check of %v is OK, but %v holds with %v", steps[:n+1], p, ways[0])
				}
			}
		}
	}
	if shown == 0 {
		t.Errorf("no steps ended with the empty clause: too few to tell much")
	}
}

// hanging tells which steps hang on a clause of the problem.
func hanging(steps []api.Step, clause int) []bool {
	hangs := make([]bool, len(steps))
	for n, s := range steps {
		switch s.Rule {
		case api.Given:
			hangs[n] = s.A == clause
		case api.Cut:
			hangs[n] = hangs[s.A] || hangs[s.B]
		}
	}
	return hangs
}

// The steps of Solve, too: what they tell without one of the clauses holds with
// all classes with which the others do.
func TestStepsOfSolveTellWhatHolds(t *testing.T) {
	r := rand.New(rand.NewPCG(8, 2))
	looked := 0
	for range 1500 {
		count := 2 + r.IntN(4)
		p := api.Problem{Terms: someTerms(r, count), Clauses: manyClauses(r, count)}
		answer, _ := equalproof.Solve(p)
		clauses := plainFollow(p, answer.Steps)
		for one := range p.Clauses {
			others := slices.Delete(slices.Clone(p.Clauses), one, one+1)
			ways := waysToHold(t, api.Problem{Terms: p.Terms, Clauses: others})
			for n, hangs := range hanging(answer.Steps, one) {
				if hangs {
					continue
				}
				looked++
				for _, classes := range ways {
					if !holdsWith(clauses[n], classes) {
						t.Fatalf("P8: %v without clause %d holds with %v, but %s, told by step %d of %v, does not", p, one, classes, clauses[n].told(), n, answer.Steps)
					}
				}
			}
		}
	}
	if looked < 10000 {
		t.Errorf("%d steps were looked at: too few to tell much", looked)
	}
}
