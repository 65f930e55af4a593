package equalproof_test

import (
	"fmt"
	"math/rand/v2"
	"slices"
	"testing"

	"equalproof/api"
	"equalproof/equalproof"
)

// wantSolved looks at all that Solve answers, by True and Check, and tells
// whether the problem can hold.
func wantSolved(t *testing.T, p api.Problem, want bool) api.Answer {
	t.Helper()
	var answer api.Answer
	ends(t, "Solve", func() {
		var e api.Errno
		answer, e = equalproof.Solve(p)
		if e != api.OK || answer.Holds != want {
			t.Errorf("P7: Solve(%v) = %v, %d, want %v", p, answer.Holds, e, want)
			return
		}
		if !want {
			wantShown(t, p, answer)
			return
		}
		if len(answer.Steps) != 0 {
			t.Errorf("P7: %v holds with %v, but Solve tells %d steps too", p, answer.Classes, len(answer.Steps))
		}
		if holds, e := equalproof.True(p, answer.Classes); !holds || e != api.OK {
			t.Errorf("P7: Solve(%v) tells %v; True of these: %v, %d", p, answer.Classes, holds, e)
		}
	})
	return answer
}

func wantShown(t *testing.T, p api.Problem, answer api.Answer) {
	t.Helper()
	if len(answer.Classes) != 0 {
		t.Errorf("P7: %v cannot hold, but Solve tells the classes %v", p, answer.Classes)
	}
	wantCheck(t, p, answer.Steps, len(answer.Steps), api.OK)
	clauses := plainFollow(p, answer.Steps)
	if count := len(clauses); count == 0 || count != len(answer.Steps) || len(clauses[count-1]) != 0 {
		t.Errorf("P7: the steps of %v do not show that it cannot hold: %v", p, answer.Steps)
	}
}

// wantAsSearched holds Solve against all classes there are.
func wantAsSearched(t *testing.T, p api.Problem) bool {
	t.Helper()
	ways := waysToHold(t, p)
	answer := wantSolved(t, p, len(ways) > 0)
	if answer.Holds && !slices.ContainsFunc(ways, func(way []int) bool { return slices.Equal(way, answer.Classes) }) {
		t.Errorf("P7: %v does not hold with %v", p, answer.Classes)
	}
	return answer.Holds
}

func problem(terms []api.Term, clauses ...[]api.Lit) api.Problem {
	return api.Problem{Terms: terms, Clauses: clauses}
}

func clause(lits ...api.Lit) []api.Lit { return lits }

func TestSolveExamples(t *testing.T) {
	wantSolved(t, twoWays(), false)
	answer := wantSolved(t, problem(four(), clause(is(0, 1), is(2, 1)), clause(not(0, 1))), true)
	if answer.Classes[1] != answer.Classes[2] || answer.Classes[0] == answer.Classes[1] {
		t.Errorf("P7: f(a) = b, and a != b, must hold with %v", answer.Classes)
	}
	wantSolved(t, problem(four()), true)
	wantSolved(t, problem(four(), clause()), false)
}

func TestSolveWithoutClauses(t *testing.T) {
	for _, clauses := range [][][]api.Lit{nil, {}, make([][]api.Lit, 0, 3)} {
		for count := 1; count <= api.MaxTerms; count++ {
			wantSolved(t, api.Problem{Terms: names(count), Clauses: clauses}, true)
			// all are the same, and so equal
			answer := wantSolved(t, api.Problem{Terms: make([]api.Term, count), Clauses: clauses}, true)
			if !slices.Equal(answer.Classes, make([]int, count)) {
				t.Errorf("P7: %d terms that are the same in all: classes %v", count, answer.Classes)
			}
		}
	}
}

func TestSolveWithTheEmptyClause(t *testing.T) {
	for _, empty := range [][]api.Lit{nil, {}, make([]api.Lit, 0, 3)} {
		wantSolved(t, problem(names(1), empty), false)
		wantSolved(t, problem(names(2), empty, empty), false)
		wantSolved(t, problem(names(2), clause(is(0, 1)), empty), false)
		wantSolved(t, problem(four(), clause(is(0, 1)), clause(not(2, 3)), empty, clause(is(0, 0))), false)
	}
	wantSolved(t, api.Problem{Terms: four(), Clauses: make([][]api.Lit, api.MaxClauses)}, false)
}

// A term is equal to itself, whatever else is said.
func TestSolveOfOneTerm(t *testing.T) {
	for a := range 4 {
		wantSolved(t, problem(four(), clause(is(a, a))), true)
		wantSolved(t, problem(four(), clause(not(a, a))), false)
		wantSolved(t, problem(four(), clause(not(a, a), is(a, a))), true)
		wantSolved(t, problem(four(), clause(not(a, a), not(a, a))), false)
		wantSolved(t, problem(four(), clause(not(0, 0), not(3, 3), not(a, a))), false)
		wantSolved(t, problem(four(), clause(not(a, a), is(0, 1)), clause(not(3, 2), not(a, a))), false)
		wantSolved(t, problem(four(), clause(not(a, a), is(0, 1)), clause(not(3, 2), is(a, a))), true)
	}
}

// Terms that are alike are equal, if their args are; those without args always.
func TestSolveOfTermsAlike(t *testing.T) {
	same := []api.Term{term(0), term(0), term(3, 0, 1), term(3, 1, 0), term(3, 0), term(0, 1)}
	wantSolved(t, problem(same, clause(not(0, 1))), false)
	wantSolved(t, problem(same, clause(not(3, 2))), false)
	wantSolved(t, problem(same, clause(not(0, 1), not(2, 3))), false)
	wantSolved(t, problem(same, clause(not(0, 5), is(0, 1))), true)
	// as many args, and the same symbol: both are needed
	for a := range 6 {
		for b := range a {
			wantSolved(t, problem(same, clause(not(a, b))), a != 1 && !(a == 3 && b == 2))
			wantSolved(t, problem(same, clause(is(a, b))), true)
		}
	}
	// each place is held against its like
	turned := []api.Term{term(0), term(1), term(3, 0, 1), term(3, 1, 0), term(3, 0, 0)}
	wantSolved(t, problem(turned, clause(not(2, 3))), true)
	wantSolved(t, problem(turned, clause(not(2, 4))), true)
	wantSolved(t, problem(turned, clause(is(0, 1)), clause(not(2, 3), not(3, 4))), false)
}

// A pair and its turned one are one, and a literal told twice is told once.
func TestSolveOfTurnedPairs(t *testing.T) {
	wantSolved(t, problem(four(), clause(is(0, 1)), clause(not(1, 0))), false)
	wantSolved(t, problem(four(), clause(is(1, 0), is(0, 1), is(1, 0)), clause(not(3, 2), not(2, 3))), false)
	wantSolved(t, problem(four(), clause(is(0, 1), not(1, 0))), true)
	wantSolved(t, problem(four(), clause(is(0, 1), not(1, 0)), clause(is(2, 3)), clause(not(2, 3))), false)
	wantSolved(t, problem(four(), clause(is(0, 2)), clause(is(0, 2)), clause(is(2, 0))), true)
}

// Long ways from term to term, in every order, and functions along them.
func TestSolveOfLongWays(t *testing.T) {
	r := rand.New(rand.NewPCG(7, 1))
	for range 50 {
		order := r.Perm(9)
		var clauses [][]api.Lit
		for i := range 8 {
			clauses = append(clauses, clause(is(order[i], order[i+1])))
		}
		r.Shuffle(8, func(i, j int) { clauses[i], clauses[j] = clauses[j], clauses[i] })
		wantSolved(t, problem(names(9), append(clauses, clause(not(order[0], order[8])))...), false)
		wantSolved(t, problem(names(9), append(clauses[:7:7], clause(not(order[0], order[8])))...), true)
	}
	// f of f of .. a: if five f and three f are nothing, one is
	chain := []api.Term{term(0)}
	for i := range 8 {
		chain = append(chain, term(1, i))
	}
	wantSolved(t, problem(chain, clause(is(5, 0)), clause(is(3, 0)), clause(not(1, 0))), false)
	wantSolved(t, problem(chain, clause(is(8, 0)), clause(is(5, 0)), clause(not(1, 0))), false)
	wantSolved(t, problem(chain, clause(is(8, 0)), clause(is(6, 0)), clause(not(2, 0))), false)
	wantSolved(t, problem(chain, clause(is(8, 0)), clause(is(6, 0)), clause(not(1, 0))), true)
	wantSolved(t, problem(chain, clause(is(8, 0), is(7, 0)), clause(is(5, 0)), clause(not(1, 0))), false)
	wantSolved(t, problem(chain, clause(is(8, 7)), clause(is(0, 8)), clause(not(4, 3))), false)
}

// holes: so many things are each one of others, no two of them the same one.
func holes(things, others int) api.Problem {
	p := api.Problem{Terms: names(things + others)}
	for a := range things {
		var one []api.Lit
		for b := range others {
			one = append(one, is(a, things+b))
		}
		p.Clauses = append(p.Clauses, one)
		for b := range a {
			p.Clauses = append(p.Clauses, clause(not(a, b)))
		}
	}
	return p
}

func TestSolveOfHoles(t *testing.T) {
	for things := 1; things <= 5; things++ {
		for others := 1; others+things <= api.MaxTerms && others <= api.MaxLits; others++ {
			wantSolved(t, holes(things, others), things <= others)
		}
	}
}

// Each problem of two clauses of at most two literals about three terms.
func TestSolveOfAllSmallProblems(t *testing.T) {
	var lits []api.Lit
	for a := range 3 {
		for b := range a + 1 {
			lits = append(lits, is(a, b), not(b, a))
		}
	}
	clauses := [][]api.Lit{{}}
	for i, one := range lits {
		clauses = append(clauses, clause(one))
		for _, other := range lits[:i] {
			clauses = append(clauses, clause(one, other))
		}
	}
	for _, terms := range [][]api.Term{names(3), {term(0), term(1), term(1)}, {term(0), term(1, 0), term(1, 1)}, {term(0), term(0), term(0, 0, 1)}, {term(4), term(4), term(4)}} {
		for _, one := range clauses {
			for _, other := range clauses {
				wantAsSearched(t, problem(terms, one, other))
			}
		}
	}
}

// manyClauses: up to as many as there may be, short ones rather.
func manyClauses(r *rand.Rand, count int) [][]api.Lit {
	clauses := make([][]api.Lit, 1+r.IntN(api.MaxClauses))
	longest, denied := 1+r.IntN(api.MaxLits), 1+r.IntN(9)
	for i := range clauses {
		for range 1 + r.IntN(longest) {
			clauses[i] = append(clauses[i], api.Lit{A: r.IntN(count), B: r.IntN(count), Not: r.IntN(10) < denied})
		}
	}
	return clauses
}

func TestSolveOfManyProblems(t *testing.T) {
	r := rand.New(rand.NewPCG(7, 2))
	counts := [2]int{}
	for round := range 4000 {
		count := 1 + r.IntN(5)
		if round%100 == 0 {
			count = 6 + r.IntN(4)
		}
		if wantAsSearched(t, api.Problem{Terms: someTerms(r, count), Clauses: manyClauses(r, count)}) {
			counts[0]++
		} else {
			counts[1]++
		}
	}
	if counts[0] < 800 || counts[1] < 800 {
		t.Errorf("%d problems can hold, %d cannot: too few to tell much", counts[0], counts[1])
	}
}

// Great problems, of which each clause more makes it harder to hold, till none
// can: that they cannot is shown by steps, that they could just ahead of that
// by classes.
func TestSolveOfGreatProblems(t *testing.T) {
	r := rand.New(rand.NewPCG(7, 3))
	longest := 0
	for range 300 {
		p := api.Problem{Terms: someTerms(r, api.MaxTerms)}
		held := true
		for len(p.Clauses) < api.MaxClauses {
			var next []api.Lit
			for range 1 + r.IntN(2) {
				next = append(next, api.Lit{A: r.IntN(9), B: r.IntN(9), Not: r.IntN(2) == 0})
			}
			p.Clauses = append(p.Clauses, next)
			answer, _ := equalproof.Solve(p)
			if answer.Holds && !held {
				t.Fatalf("P7: %v can hold, but not with a clause less", p)
			}
			held = answer.Holds
			longest = max(longest, len(wantSolved(t, p, held).Steps))
		}
	}
	if longest < 20 {
		t.Errorf("the longest steps were %d: too few to tell much", longest)
	}
}

// At the bounds of all: nine terms, sixteen clauses, six literals in each.
func TestSolveAtTheBounds(t *testing.T) {
	r := rand.New(rand.NewPCG(7, 4))
	for range 300 {
		p := api.Problem{Terms: someTerms(r, api.MaxTerms)}
		p.Terms[8].Symbol = api.MaxSymbol
		for range api.MaxClauses {
			var six []api.Lit
			for range api.MaxLits {
				six = append(six, api.Lit{A: r.IntN(9), B: r.IntN(9), Not: r.IntN(2) == 0})
			}
			p.Clauses = append(p.Clauses, six)
		}
		wantSolved(t, p, true)
	}
	// each way to put both signs to four pairs is denied: 16 clauses
	p := api.Problem{Terms: names(9)}
	for signs := range 16 {
		var six []api.Lit
		for bit := range 4 {
			six = append(six, api.Lit{A: 2 * bit, B: 2*bit + 1, Not: signs>>bit&1 == 1})
		}
		p.Clauses = append(p.Clauses, append(six, not(8, 8), six[0]))
	}
	wantSolved(t, p, false)
	p.Clauses[11][4] = is(8, 8)
	wantSolved(t, p, true)
}

func wantRefused(t *testing.T, p api.Problem, want api.Errno) {
	t.Helper()
	ends(t, "Solve", func() {
		answer, e := equalproof.Solve(p)
		if e != want {
			t.Errorf("P1, P7: Solve of %d terms and %d clauses: error %d, want %d", len(p.Terms), len(p.Clauses), e, want)
		}
		if answer.Holds || answer.Classes != nil || answer.Steps != nil {
			t.Errorf("P1: Solve with the error %d tells %s", e, fmt.Sprint(answer))
		}
	})
}

func TestSolveOfNoProblem(t *testing.T) {
	for _, terms := range noTerms() {
		wantRefused(t, api.Problem{Terms: terms}, api.ErrTerms)
		wantRefused(t, problem(terms, clause()), api.ErrTerms)
		for _, clauses := range noClauses() {
			wantRefused(t, api.Problem{Terms: terms, Clauses: clauses}, api.ErrTerms)
		}
	}
	for _, clauses := range noClauses() {
		wantRefused(t, api.Problem{Terms: four(), Clauses: clauses}, api.ErrClause)
	}
	// an empty clause, or two that cannot hold, do not stand for the error
	wantRefused(t, problem(four(), clause(), clause(is(0, 4))), api.ErrClause)
	wantRefused(t, problem(four(), clause(is(0, 1)), clause(not(0, 1)), clause(not(-1, 0))), api.ErrClause)
}
