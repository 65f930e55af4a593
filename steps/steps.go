// Package steps follows steps: it tells the clause of each, or that it is not
// right. The problem must have been found right by package valid; of the steps
// nothing is taken on trust.
package steps

import (
	"equalproof/api"
	"equalproof/equality"
	"equalproof/lits"
	"equalproof/valid"
)

// Follow tells how many steps are right, up to the first that is not, and the
// clause of the last of these.
func Follow(p api.Problem, list []api.Step) (lits.Set, int) {
	var last lits.Set
	clauses := make([]lits.Set, 0, len(list))
	for _, step := range list {
		clause, right := Next(p, clauses, step)
		if !right {
			break
		}
		clauses = append(clauses, clause)
		last = clause
	}
	return last, len(clauses)
}

// Next tells the clause of a step, and whether it is right, the clauses of all
// steps ahead of it being these.
func Next(p api.Problem, ahead []lits.Set, step api.Step) (lits.Set, bool) {
	switch step.Rule {
	case api.Given:
		return given(p.Clauses, step)
	case api.Refl:
		return refl(len(p.Terms), step)
	case api.Trans:
		return trans(len(p.Terms), step)
	case api.Cong:
		return cong(p.Terms, step)
	case api.Cut:
		return cut(len(p.Terms), ahead, step)
	}
	return lits.Set{}, false
}

func given(clauses [][]api.Lit, step api.Step) (lits.Set, bool) {
	if !allBelow(len(clauses), step.A) || !allZero(step.B, step.C, step.D) {
		return lits.Set{}, false
	}
	return lits.Of(clauses[step.A]...), true
}

func refl(count int, step api.Step) (lits.Set, bool) {
	if !allBelow(count, step.A) || !allZero(step.B, step.C, step.D) {
		return lits.Set{}, false
	}
	return lits.Of(equal(step.A, step.A)), true
}

func trans(count int, step api.Step) (lits.Set, bool) {
	if !allBelow(count, step.A, step.B, step.C) || !allZero(step.D) {
		return lits.Set{}, false
	}
	return lits.Of(apart(step.A, step.B), apart(step.B, step.C), equal(step.A, step.C)), true
}

func cong(terms []api.Term, step api.Step) (lits.Set, bool) {
	if !allBelow(len(terms), step.A, step.B) || !allZero(step.C, step.D) {
		return lits.Set{}, false
	}
	a, b := terms[step.A], terms[step.B]
	if !equality.Alike(a, b) {
		return lits.Set{}, false
	}
	clause := lits.Of(equal(step.A, step.B))
	for place, arg := range a.Args {
		clause = clause.With(apart(arg, b.Args[place]))
	}
	return clause, true
}

// cut takes a literal out of one clause and its contrary out of the other.
// Each goes from its own clause alone: where the other clause has it too, it
// stays.
func cut(count int, ahead []lits.Set, step api.Step) (lits.Set, bool) {
	if !allBelow(len(ahead), step.A, step.B) || !allBelow(count, step.C, step.D) {
		return lits.Set{}, false
	}
	says, denies := ahead[step.A], ahead[step.B]
	first, second := equal(step.C, step.D), apart(step.C, step.D)
	if !says.Has(first) || !denies.Has(second) {
		return lits.Set{}, false
	}
	return says.Without(first).Union(denies.Without(second)), true
}

func equal(a, b int) api.Lit {
	return api.Lit{A: a, B: b}
}

func apart(a, b int) api.Lit {
	return api.Lit{A: a, B: b, Not: true}
}

func allBelow(end int, numbers ...int) bool {
	for _, number := range numbers {
		if !valid.Below(number, end) {
			return false
		}
	}
	return true
}

func allZero(numbers ...int) bool {
	for _, number := range numbers {
		if number != 0 {
			return false
		}
	}
	return true
}
