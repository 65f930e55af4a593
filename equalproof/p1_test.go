package equalproof_test

import (
	"math"
	"testing"

	"equalproof/api"
	"equalproof/equalproof"
)

func wantClose(t *testing.T, terms []api.Term, pairs []api.Pair, want api.Errno) {
	t.Helper()
	ends(t, "Close", func() {
		classes, e := equalproof.Close(terms, pairs)
		if e != want {
			t.Errorf("P1, P3: Close of %d terms and %d pairs: error %d, want %d", len(terms), len(pairs), e, want)
		}
		if e != api.OK && classes != nil {
			t.Errorf("P1: Close with the error %d tells %v", e, classes)
		}
	})
}

func wantTrue(t *testing.T, p api.Problem, classes []int, want api.Errno) {
	t.Helper()
	ends(t, "True", func() {
		holds, e := equalproof.True(p, classes)
		if e != want {
			t.Errorf("P1, P4: True of %d terms, %d clauses and %d classes: error %d, want %d", len(p.Terms), len(p.Clauses), len(classes), e, want)
		}
		if e != api.OK && holds {
			t.Errorf("P1: True with the error %d is true", e)
		}
	})
}

func TestFirstErrorOfClose(t *testing.T) {
	for _, terms := range noTerms() {
		wantClose(t, terms, nil, api.ErrTerms)
		for _, pairs := range noPairs() {
			wantClose(t, terms, pairs, api.ErrTerms)
		}
	}
	for _, pairs := range noPairs() {
		wantClose(t, four(), pairs, api.ErrPair)
	}
}

func TestFirstErrorOfTrue(t *testing.T) {
	good := []int{0, 1, 2, 3}
	for _, terms := range noTerms() {
		wantTrue(t, api.Problem{Terms: terms}, good, api.ErrTerms)
		for _, clauses := range noClauses() {
			wantTrue(t, api.Problem{Terms: terms, Clauses: clauses}, good, api.ErrTerms)
			wantTrue(t, api.Problem{Terms: terms, Clauses: clauses}, nil, api.ErrTerms)
		}
		for _, classes := range noClasses() {
			wantTrue(t, api.Problem{Terms: terms}, classes, api.ErrTerms)
		}
	}
	for _, clauses := range noClauses() {
		wantTrue(t, api.Problem{Terms: four(), Clauses: clauses}, good, api.ErrClause)
		for _, classes := range noClasses() {
			wantTrue(t, api.Problem{Terms: four(), Clauses: clauses}, classes, api.ErrClause)
		}
	}
	for _, classes := range noClasses() {
		wantTrue(t, api.Problem{Terms: four()}, classes, api.ErrPair)
		// what could be told already is not told instead of the error
		wantTrue(t, api.Problem{Terms: four(), Clauses: [][]api.Lit{{}}}, classes, api.ErrPair)
	}
}

func TestListsOfNothing(t *testing.T) {
	one := []api.Term{{Symbol: 0, Args: []int{}}}
	wantClose(t, one, nil, api.OK)
	wantClose(t, one, []api.Pair{}, api.OK)
	wantClose(t, nil, nil, api.ErrTerms)
	wantClose(t, []api.Term{}, []api.Pair{}, api.ErrTerms)
	for _, clauses := range [][][]api.Lit{nil, {}, {nil}, {{}}} {
		wantTrue(t, api.Problem{Terms: one, Clauses: clauses}, []int{0}, api.OK)
		wantTrue(t, api.Problem{Terms: one, Clauses: clauses}, nil, api.ErrPair)
		wantTrue(t, api.Problem{Terms: one, Clauses: clauses}, []int{}, api.ErrPair)
		wantTrue(t, api.Problem{Clauses: clauses}, nil, api.ErrTerms)
	}
}

func wildSteps() [][]api.Step {
	lists := [][]api.Step{nil, {}, make([]api.Step, 1000)}
	for _, n := range wildNumbers() {
		for rule := -1; rule <= 5; rule++ {
			lists = append(lists, []api.Step{{Rule: rule, A: n, B: n, C: n, D: n}}, []api.Step{{Rule: rule, A: n}}, []api.Step{{Rule: rule, B: n}})
		}
		lists = append(lists, []api.Step{{Rule: n}})
	}
	return lists
}

func TestEveryCallEnds(t *testing.T) {
	problems := []api.Problem{{}, {Terms: four()}, {Terms: four(), Clauses: [][]api.Lit{{is(0, 1)}, {not(2, 3)}}}}
	for _, terms := range noTerms() {
		problems = append(problems, api.Problem{Terms: terms})
	}
	for _, clauses := range noClauses() {
		problems = append(problems, api.Problem{Terms: four(), Clauses: clauses})
	}
	for _, p := range problems {
		ends(t, "Solve", func() { equalproof.Solve(p) })
		for _, steps := range wildSteps() {
			ends(t, "Clause", func() { equalproof.Clause(p, steps) })
			ends(t, "Check", func() { equalproof.Check(p, steps) })
		}
	}
}

func TestWildNumbers(t *testing.T) {
	for _, m := range wildNumbers() {
		for _, n := range wildNumbers() {
			ends(t, "Close", func() {
				equalproof.Close([]api.Term{term(0), term(m, n)}, nil)
				equalproof.Close([]api.Term{term(0), term(1, m, n)}, nil)
				equalproof.Close(four(), []api.Pair{{A: m, B: n}})
			})
			ends(t, "True", func() {
				equalproof.True(api.Problem{Terms: four(), Clauses: [][]api.Lit{{is(m, n)}, {not(n, m)}}}, []int{0, 1, 2, 3})
				equalproof.True(api.Problem{Terms: four()}, []int{0, 1, m, n})
				equalproof.True(api.Problem{Terms: []api.Term{term(m), term(n, math.MaxInt)}}, []int{m, n})
			})
		}
	}
}
