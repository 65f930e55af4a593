package equalproof_test

import (
	"testing"

	"equalproof/api"
	"equalproof/equalproof"
)

func wantCheck(t *testing.T, p api.Problem, steps []api.Step, wantNumber int, want api.Errno) {
	t.Helper()
	ends(t, "Check", func() {
		n, e := equalproof.Check(p, steps)
		if n != wantNumber || e != want {
			t.Errorf("P1, P6: Check of %d terms, %d clauses and %d steps: %d, %d, want %d, %d", len(p.Terms), len(p.Clauses), len(steps), n, e, wantNumber, want)
		}
	})
}

func TestCheckExample(t *testing.T) {
	all := list(given(0), given(1), cong(2, 3), cut(2, 1, 2, 3), cut(0, 3, 0, 1))
	wantCheck(t, twoWays(), all, 5, api.OK)
	for count := range 5 {
		wantCheck(t, twoWays(), all[:count], count, api.ErrOpen)
	}
}

func TestCheckOfTheEmptyClause(t *testing.T) {
	wantCheck(t, seven(), list(given(3)), 1, api.OK)
	wantCheck(t, api.Problem{Terms: names(1), Clauses: [][]api.Lit{nil}}, list(given(0)), 1, api.OK)
	// the last step's clause counts, not one ahead of it
	wantCheck(t, seven(), list(given(3), refl(0)), 2, api.ErrOpen)
	wantCheck(t, seven(), list(refl(0), given(3)), 2, api.OK)
	wantCheck(t, seven(), list(given(3), refl(0), given(3)), 3, api.OK)
	// a step that is not right counts, behind the empty clause too
	wantCheck(t, seven(), list(given(3), refl(7)), 1, api.ErrStep)
	wantCheck(t, seven(), list(given(3), given(3), cut(0, 1, 0, 0)), 2, api.ErrStep)
}

func TestCheckOfNoSteps(t *testing.T) {
	for _, steps := range [][]api.Step{nil, {}, make([]api.Step, 0, 5)} {
		wantCheck(t, seven(), steps, 0, api.ErrOpen)
		wantCheck(t, api.Problem{Terms: four()}, steps, 0, api.ErrOpen)
	}
}

// What is left of a clause and its contrary is nothing, by each rule.
func TestCheckOfShortSteps(t *testing.T) {
	p := api.Problem{
		Terms:   []api.Term{term(0), term(0), term(1, 0), term(1, 1), term(2)},
		Clauses: [][]api.Lit{{not(0, 0)}, {not(1, 0)}, {not(3, 2)}, {is(4, 0), is(0, 4)}, {is(1, 4)}, {not(4, 0)}},
	}
	wantCheck(t, p, list(refl(0), given(0), cut(0, 1, 0, 0)), 3, api.OK)
	wantCheck(t, p, list(cong(0, 1), given(1), cut(0, 1, 0, 1)), 3, api.OK)
	wantCheck(t, p, list(cong(2, 3), given(2), cong(1, 0), cut(0, 1, 3, 2), cut(2, 3, 1, 0)), 5, api.OK)
	wantCheck(t, p, list(trans(0, 4, 1), given(1), given(3), given(4), cut(0, 1, 1, 0), cut(2, 4, 0, 4), cut(3, 5, 1, 4)), 7, api.OK)
	wantCheck(t, p, list(given(3), given(5), cut(0, 1, 4, 0)), 3, api.OK)
	// the two clauses the wrong way round
	wantCheck(t, p, list(given(3), given(5), cut(1, 0, 4, 0)), 2, api.ErrStep)
}

func TestStepsOfNoProblem(t *testing.T) {
	lists := append(wildSteps(), list(given(0)), list(refl(0)), make([]api.Step, 1<<20))
	manyTerms, manyClauses := noTerms(), noClauses()
	for _, steps := range lists {
		for _, terms := range manyTerms {
			wantCheck(t, api.Problem{Terms: terms}, steps, 0, api.ErrTerms)
			wantClause(t, api.Problem{Terms: terms}, steps, 0, api.ErrTerms)
		}
		for _, clauses := range manyClauses {
			p := api.Problem{Terms: four(), Clauses: clauses}
			wantCheck(t, p, steps, 0, api.ErrClause)
			wantClause(t, p, steps, 0, api.ErrClause)
		}
	}
	for _, clauses := range manyClauses {
		wantCheck(t, api.Problem{Clauses: clauses}, nil, 0, api.ErrTerms)
		wantClause(t, api.Problem{Clauses: clauses}, nil, 0, api.ErrTerms)
	}
}

// Some million steps, each cut hanging on the one ahead of it.
func TestStepsWithoutEnd(t *testing.T) {
	steps := list(given(0))
	for len(steps) < 2000001 {
		last := len(steps) - 1
		steps = append(steps, trans(0, 1, 1), cut(last, last+1, 0, 1), cong(1, 1), refl(1))
		steps = append(steps, cut(last+4, last+2, 1, 1))
	}
	p := twoWays()
	wantCheck(t, p, steps, len(steps), api.ErrOpen)
	wantTold(t, p, "0 = 1", steps...)
	steps = append(steps, cong(2, 3), given(1))
	last := len(steps) - 1
	steps = append(steps, cut(last-1, last, 2, 3), cut(last-2, last+1, 0, 1))
	wantCheck(t, p, steps, len(steps), api.OK)
	wantTold(t, p, "", steps...)
	steps[1000000].Rule = 7
	wantCheck(t, p, steps, 1000000, api.ErrStep)
	wantClause(t, p, steps, 1000000, api.ErrStep)
}
