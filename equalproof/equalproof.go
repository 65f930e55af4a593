// Package equalproof: which things are equal, and why: see DOC.md.
package equalproof

import (
	"equalproof/api"
	"equalproof/equality"
	"equalproof/lits"
	"equalproof/search"
	"equalproof/steps"
	"equalproof/valid"
)

// Close tells the classes of terms, if some pairs hold (P3).
func Close(terms []api.Term, pairs []api.Pair) ([]int, api.Errno) {
	if !valid.Terms(terms) {
		return nil, api.ErrTerms
	}
	if !valid.Pairs(pairs, len(terms)) {
		return nil, api.ErrPair
	}
	return equality.Close(terms, pairs), api.OK
}

// True tells whether a problem holds, the classes being so (P4).
func True(p api.Problem, classes []int) (bool, api.Errno) {
	if e := refuse(p); e != api.OK {
		return false, e
	}
	if !valid.Classes(classes, len(p.Terms)) {
		return false, api.ErrPair
	}
	return equality.Sound(p.Terms, classes) && equality.AllHold(p.Clauses, classes), api.OK
}

// Clause tells the clause of the last step (P5).
func Clause(p api.Problem, steps []api.Step) ([]api.Lit, int, api.Errno) {
	last, right, e := follow(p, steps)
	if e != api.OK {
		return nil, right, e
	}
	if right == 0 {
		return nil, 0, api.ErrOpen
	}
	return last.InOrder(), right - 1, api.OK
}

// Check checks steps (P6).
func Check(p api.Problem, steps []api.Step) (int, api.Errno) {
	last, right, e := follow(p, steps)
	if e != api.OK {
		return right, e
	}
	if right == 0 || !last.IsEmpty() {
		return right, api.ErrOpen
	}
	return right, api.OK
}

// Solve solves a problem (P7).
func Solve(p api.Problem) (api.Answer, api.Errno) {
	if e := refuse(p); e != api.OK {
		return api.Answer{}, e
	}
	return search.Solve(p), api.OK
}

// refuse tells what is wrong with a problem, or OK.
func refuse(p api.Problem) api.Errno {
	if !valid.Terms(p.Terms) {
		return api.ErrTerms
	}
	if !valid.Clauses(p.Clauses, len(p.Terms)) {
		return api.ErrClause
	}
	return api.OK
}

// follow tells the clause of the last step and how many are right. With ErrStep
// that is the number of the first that is not.
func follow(p api.Problem, list []api.Step) (lits.Set, int, api.Errno) {
	if e := refuse(p); e != api.OK {
		return lits.Set{}, 0, e
	}
	last, right := steps.Follow(p, list)
	if right < len(list) {
		return lits.Set{}, right, api.ErrStep
	}
	return last, right, api.OK
}
