package equalproof_test

import (
	"fmt"
	"math/rand/v2"
	"slices"
	"strings"

	"equalproof/api"
)

func given(n int) api.Step { return api.Step{Rule: api.Given, A: n} }

func refl(a int) api.Step { return api.Step{Rule: api.Refl, A: a} }

func trans(a, b, c int) api.Step { return api.Step{Rule: api.Trans, A: a, B: b, C: c} }

func cong(a, b int) api.Step { return api.Step{Rule: api.Cong, A: a, B: b} }

func cut(a, b, c, d int) api.Step { return api.Step{Rule: api.Cut, A: a, B: b, C: c, D: d} }

func list(steps ...api.Step) []api.Step { return steps }

// seven: a, b, f(a), f(b), g(a, b), g(b, a), c, with some clauses.
func seven() api.Problem {
	return api.Problem{
		Terms: []api.Term{term(0), term(1), term(2, 0), term(2, 1), term(3, 0, 1), term(3, 1, 0), term(4)},
		Clauses: [][]api.Lit{
			{is(0, 1)},
			{not(2, 3)},
			{not(6, 2), is(1, 0), is(2, 6), is(0, 1), not(2, 6)},
			{},
			{not(5, 4), is(4, 4), not(0, 0), is(3, 6), is(0, 3), not(6, 3)},
		},
	}
}

// twoWays: the problem of the document's second example.
func twoWays() api.Problem {
	return api.Problem{Terms: four(), Clauses: [][]api.Lit{{is(0, 1)}, {not(2, 3)}}}
}

func toldLits(lits []api.Lit) string {
	var text []string
	for _, lit := range lits {
		sign := " = "
		if lit.Not {
			sign = " != "
		}
		text = append(text, fmt.Sprint(lit.A, sign, lit.B))
	}
	return strings.Join(text, ", ")
}

// plainSet: a clause, seen another way: a list in which what is added is
// looked for first.
type plainSet []api.Lit

func (s plainSet) at(lit api.Lit) int {
	return slices.IndexFunc(s, func(other api.Lit) bool {
		return lit.Not == other.Not && (lit.A == other.A && lit.B == other.B || lit.A == other.B && lit.B == other.A)
	})
}

func (s plainSet) plus(lits ...api.Lit) plainSet {
	for _, lit := range lits {
		if s.at(lit) < 0 {
			s = append(slices.Clone(s), lit)
		}
	}
	return s
}

func (s plainSet) minus(lit api.Lit) plainSet {
	return slices.Delete(slices.Clone(s), s.at(lit), s.at(lit)+1)
}

// told tells it in order, by comparing literals two by two.
func (s plainSet) told() string {
	var turned []api.Lit
	for _, lit := range s {
		turned = append(turned, api.Lit{A: min(lit.A, lit.B), B: max(lit.A, lit.B), Not: lit.Not})
	}
	slices.SortFunc(turned, func(x, y api.Lit) int {
		switch {
		case x.A != y.A:
			return x.A - y.A
		case x.B != y.B:
			return x.B - y.B
		case x.Not == y.Not:
			return 0
		case x.Not:
			return 1
		}
		return -1
	})
	return toldLits(turned)
}

// plainNext: what a step makes of those ahead of it, by the document's words.
func plainNext(p api.Problem, ahead []plainSet, s api.Step) (plainSet, bool) {
	isTerm := func(n int) bool { return n >= 0 && n < len(p.Terms) }
	isAhead := func(n int) bool { return n >= 0 && n < len(ahead) }
	switch {
	case s.Rule == 0 && s.A >= 0 && s.A < len(p.Clauses) && s.B == 0 && s.C == 0 && s.D == 0:
		return plainSet{}.plus(p.Clauses[s.A]...), true
	case s.Rule == 1 && isTerm(s.A) && s.B == 0 && s.C == 0 && s.D == 0:
		return plainSet{is(s.A, s.A)}, true
	case s.Rule == 2 && isTerm(s.A) && isTerm(s.B) && isTerm(s.C) && s.D == 0:
		return plainSet{}.plus(not(s.A, s.B), not(s.B, s.C), is(s.A, s.C)), true
	case s.Rule == 3 && isTerm(s.A) && isTerm(s.B) && s.C == 0 && s.D == 0:
		a, b := p.Terms[s.A], p.Terms[s.B]
		made := plainSet{is(s.A, s.B)}
		for i := 0; i < len(a.Args) && i < len(b.Args); i++ {
			made = made.plus(not(a.Args[i], b.Args[i]))
		}
		return made, a.Symbol == b.Symbol && len(a.Args) == len(b.Args)
	case s.Rule == 4 && isAhead(s.A) && isAhead(s.B) && isTerm(s.C) && isTerm(s.D):
		a, b := ahead[s.A], ahead[s.B]
		if a.at(is(s.C, s.D)) < 0 || b.at(not(s.C, s.D)) < 0 {
			return nil, false
		}
		return a.minus(is(s.C, s.D)).plus(b.minus(not(s.C, s.D))...), true
	}
	return nil, false
}

// plainFollow tells the clauses of steps up to the first that is not right.
func plainFollow(p api.Problem, steps []api.Step) []plainSet {
	var clauses []plainSet
	for _, s := range steps {
		clause, right := plainNext(p, clauses, s)
		if !right {
			break
		}
		clauses = append(clauses, clause)
	}
	return clauses
}

// someSteps makes steps; few of them are not right.
func someSteps(r *rand.Rand, p api.Problem, count int) []api.Step {
	var steps []api.Step
	var clauses []plainSet
	for len(steps) < count {
		s := someStep(r, p, clauses)
		clause, right := plainNext(p, clauses, s)
		if !right && r.IntN(200) > 0 {
			continue
		}
		steps, clauses = append(steps, s), append(clauses, clause)
	}
	return steps
}

func someStep(r *rand.Rand, p api.Problem, ahead []plainSet) api.Step {
	any := func() int { return r.IntN(len(p.Terms)) }
	switch r.IntN(9) {
	case 0:
		return given(r.IntN(len(p.Clauses) + 1))
	case 1:
		return refl(any())
	case 2:
		return trans(any(), any(), any())
	case 3:
		return cong(any(), any())
	case 4:
		return api.Step{Rule: r.IntN(7) - 1, A: any() - 1, B: any() - 1, C: any() - 1, D: any() - 1}
	}
	if len(ahead) == 0 {
		return refl(any())
	}
	return someCut(r, ahead)
}

// someCut cuts a clause, a long one rather, and one that fits, if there is one.
func someCut(r *rand.Rand, ahead []plainSet) api.Step {
	one, other := r.IntN(len(ahead)), r.IntN(len(ahead))
	if r.IntN(2) == 0 {
		one = longest(ahead)
	}
	if len(ahead[one]) == 0 {
		return cut(one, other, 0, 0)
	}
	lit := ahead[one][r.IntN(len(ahead[one]))]
	contrary := api.Lit{A: lit.B, B: lit.A, Not: !lit.Not}
	for _, i := range r.Perm(len(ahead)) {
		if ahead[i].at(contrary) >= 0 {
			other = i
		}
	}
	if lit.Not {
		one, other = other, one
	}
	return cut(one, other, lit.A, lit.B)
}

func longest(clauses []plainSet) int {
	best := 0
	for i, clause := range clauses {
		if len(clause) > len(clauses[best]) {
			best = i
		}
	}
	return best
}
