package proof_test

import (
	"slices"
	"testing"

	"equalproof/api"
	"equalproof/lits"
	"equalproof/proof"
)

// twoWays: a = b; f(a) != f(b).
func twoWays() api.Problem {
	return api.Problem{
		Terms:   []api.Term{{Symbol: 0}, {Symbol: 1}, {Symbol: 2, Args: []int{0}}, {Symbol: 2, Args: []int{1}}},
		Clauses: [][]api.Lit{{{A: 0, B: 1}}, {{A: 2, B: 3, Not: true}}, {{A: 1, B: 0}}},
	}
}

func TestStepsThatAreNotNeeded(t *testing.T) {
	made := proof.New(twoWays())
	first, second := made.Given(0), made.Given(1)
	made.Refl(3)
	made.Trans(0, 1, 2)
	like := made.Cong(2, 3)
	made.Cut(first, like, api.Lit{A: 0, B: 1})
	third := made.Cut(second, like, api.Lit{A: 2, B: 3, Not: true})
	last := made.Cut(first, third, api.Lit{A: 1, B: 0})
	if !made.Clause(last).IsEmpty() {
		t.Errorf("the last clause is %v", made.Clause(last).InOrder())
	}
	want := []api.Step{{Rule: api.Given, A: 0}, {Rule: api.Given, A: 1}, {Rule: api.Cong, A: 2, B: 3}, {Rule: api.Cut, A: 2, B: 1, C: 2, D: 3}, {Rule: api.Cut, A: 0, B: 3, C: 1, D: 0}}
	if got := made.UpTo(last); !slices.Equal(got, want) {
		t.Errorf("P7: the steps are %v, want %v", got, want)
	}
	if got := made.UpTo(first); !slices.Equal(got, want[:1]) {
		t.Errorf("P7: the steps up to the first are %v", got)
	}
}

// One step for each clause is enough.
func TestTheSameClauseTwice(t *testing.T) {
	made := proof.New(twoWays())
	if a, b := made.Given(0), made.Given(2); a != b {
		t.Errorf("a = b is told by the steps %d and %d", a, b)
	}
	if a, b := made.Cong(2, 3), made.Cong(3, 2); a != b {
		t.Errorf("a != b or f(a) = f(b) is told by the steps %d and %d", a, b)
	}
	if made.Given(0) == made.Given(1) || made.Refl(0) == made.Refl(1) {
		t.Errorf("one step tells two clauses")
	}
	if got := made.Clause(made.Refl(2)); got != lits.Of(api.Lit{A: 2, B: 2}) {
		t.Errorf("the clause of Refl 2 is %v", got.InOrder())
	}
}

// What is handed out is not what goes on growing.
func TestStepsAreNewEachTime(t *testing.T) {
	made := proof.New(twoWays())
	number := made.Given(1)
	first := made.UpTo(number)
	first[0] = api.Step{Rule: 9}
	if got := made.UpTo(number); got[0] != (api.Step{Rule: api.Given, A: 1}) {
		t.Errorf("P2: the steps are changed from outside: %v", got)
	}
}
