// Package proof makes steps, one behind the other, and tells the clause of
// each as it is made.
package proof

import (
	"equalproof/api"
	"equalproof/lits"
	"equalproof/steps"
)

// Proof: steps that are right, of one problem.
type Proof struct {
	problem api.Problem
	steps   []api.Step
	clauses []lits.Set
	numbers map[lits.Set]int // of the step that tells a clause
}

// New makes a proof without steps.
func New(p api.Problem) *Proof {
	return &Proof{problem: p, numbers: map[lits.Set]int{}}
}

// Clause tells the clause of a step.
func (made *Proof) Clause(number int) lits.Set {
	return made.clauses[number]
}

// Given makes the step of a clause of the problem, and tells its number, as
// the other rules do.
func (made *Proof) Given(clause int) int {
	return made.add(api.Step{Rule: api.Given, A: clause})
}

// Refl makes the step that a is a.
func (made *Proof) Refl(a int) int {
	return made.add(api.Step{Rule: api.Refl, A: a})
}

// Trans makes the step that a is c, if a is b, and b is c.
func (made *Proof) Trans(a, b, c int) int {
	return made.add(api.Step{Rule: api.Trans, A: a, B: b, C: c})
}

// Cong makes the step that two terms are equal, if their args are.
func (made *Proof) Cong(a, b int) int {
	return made.add(api.Step{Rule: api.Cong, A: a, B: b})
}

// Cut makes the step of two, of which the one has a literal, the other its
// contrary.
func (made *Proof) Cut(has, contrary int, lit api.Lit) int {
	if lit.Not {
		has, contrary = contrary, has
	}
	return made.add(api.Step{Rule: api.Cut, A: has, B: contrary, C: lit.A, D: lit.B})
}

// UpTo tells the step with a number, behind those that it hangs on.
func (made *Proof) UpTo(number int) []api.Step {
	needed := made.neededFor(number)
	places := make([]int, number+1)
	var list []api.Step
	for n, step := range made.steps[:number+1] {
		if !needed[n] {
			continue
		}
		if step.Rule == api.Cut {
			step.A, step.B = places[step.A], places[step.B]
		}
		places[n] = len(list)
		list = append(list, step)
	}
	return list
}

// add makes no second step for a clause that one tells already.
func (made *Proof) add(step api.Step) int {
	clause, _ := steps.Next(made.problem, made.clauses, step)
	if number, told := made.numbers[clause]; told {
		return number
	}
	number := len(made.steps)
	made.steps = append(made.steps, step)
	made.clauses = append(made.clauses, clause)
	made.numbers[clause] = number
	return number
}

func (made *Proof) neededFor(number int) []bool {
	needed := make([]bool, number+1)
	needed[number] = true
	for n := number; n >= 0; n-- {
		if step := made.steps[n]; needed[n] && step.Rule == api.Cut {
			needed[step.A], needed[step.B] = true, true
		}
	}
	return needed
}
