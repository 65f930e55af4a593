package search

import (
	"testing"

	"equalproof/api"
)

func is(a, b int) api.Lit { return api.Lit{A: a, B: b} }

func not(a, b int) api.Lit { return api.Lit{A: a, B: b, Not: true} }

// four: a, b, f(a), f(b).
func four(clauses ...[]api.Lit) api.Problem {
	return api.Problem{
		Terms:   []api.Term{{Symbol: 0}, {Symbol: 1}, {Symbol: 2, Args: []int{0}}, {Symbol: 2, Args: []int{1}}},
		Clauses: clauses,
	}
}

// Pairs that have met in what failed are tried ahead of others.
func TestWhatFailedIsTriedFirst(t *testing.T) {
	s := start(four([]api.Lit{is(0, 1), is(0, 2), is(1, 3)}, []api.Lit{not(2, 3), not(3, 1)}))
	s.learn(s.known[1])
	for _, want := range []api.Pair{{A: 1, B: 3}, {A: 2, B: 3}, {A: 0, B: 1}, {A: 0, B: 2}} {
		number, found := s.queue.Next()
		if !found || s.pairs[number] != want {
			t.Errorf("Ways: %v is tried next, want %v", s.pairs[number], want)
		}
	}
	if _, found := s.queue.Next(); found {
		t.Errorf("Ways: more pairs are tried than stand in clauses")
	}
}

// What must hold is taken without a try, and by what: a clause, or classes.
func TestWhatMustHoldIsNotTried(t *testing.T) {
	s := start(four([]api.Lit{not(2, 3), is(1, 3)}, []api.Lit{is(0, 1)}, []api.Lit{is(2, 2), is(0, 3)}))
	if failed, found := s.takeForced(); found {
		t.Fatalf("step %d fails", failed)
	}
	want := []struct {
		lit    api.Lit
		reason int
	}{{is(2, 2), closed}, {is(0, 1), s.known[1]}, {is(2, 3), closed}, {is(1, 3), s.known[0]}, {is(0, 3), closed}}
	if len(s.row) != len(want) {
		t.Fatalf("the row is %v", s.row)
	}
	for i, one := range want {
		if s.row[i].lit != one.lit || s.row[i].reason != one.reason {
			t.Errorf("entry %d of the row is %v, want %v", i, s.row[i], one)
		}
	}
	if _, found := s.queue.Next(); found {
		t.Errorf("what must hold waits to be tried")
	}
}

// A clause that failed is looked at from then on, and its pairs are heavier.
func TestWhatFailedIsKept(t *testing.T) {
	s := start(four([]api.Lit{is(0, 1), is(0, 2)}, []api.Lit{is(0, 1), not(0, 2)}, []api.Lit{not(0, 1), is(0, 3)}))
	if _, holds := s.run(); !holds {
		t.Fatalf("a = b, and a = f(b), do not hold")
	}
	if len(s.known) != 4 {
		t.Fatalf("%d clauses are known, want 3 and the one that failed", len(s.known))
	}
	if clause := s.made.Clause(s.known[3]).InOrder(); len(clause) != 1 || clause[0] != is(0, 1) {
		t.Errorf("what failed is %v", clause)
	}
}
