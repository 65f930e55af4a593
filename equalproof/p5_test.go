package equalproof_test

import (
	"math/rand/v2"
	"slices"
	"testing"

	"equalproof/api"
	"equalproof/equalproof"
)

func wantTold(t *testing.T, p api.Problem, want string, steps ...api.Step) {
	t.Helper()
	ends(t, "Clause", func() {
		lits, n, e := equalproof.Clause(p, steps)
		if toldLits(lits) != want || n != len(steps)-1 || e != api.OK {
			t.Errorf("P5: Clause of %v: %q, %d, %d, want %q, %d", steps, toldLits(lits), n, e, want, len(steps)-1)
		}
	})
}

// wantClause: what Clause answers when it has an error to tell.
func wantClause(t *testing.T, p api.Problem, steps []api.Step, wantNumber int, want api.Errno) {
	t.Helper()
	ends(t, "Clause", func() {
		lits, n, e := equalproof.Clause(p, steps)
		if lits != nil || n != wantNumber || e != want {
			t.Errorf("P1, P5: Clause of %d terms, %d clauses and %d steps: %v, %d, %d, want none, %d, %d", len(p.Terms), len(p.Clauses), len(steps), lits, n, e, wantNumber, want)
		}
	})
}

// wantWrong: steps of which one, with this number, is the first that is not right.
func wantWrong(t *testing.T, p api.Problem, number int, steps ...api.Step) {
	t.Helper()
	wantClause(t, p, steps, number, api.ErrStep)
	wantCheck(t, p, steps, number, api.ErrStep)
}

func TestClauseExample(t *testing.T) {
	all := list(given(0), given(1), cong(2, 3), cut(2, 1, 2, 3), cut(0, 3, 0, 1))
	for i, want := range []string{"0 = 1", "2 != 3", "0 != 1, 2 = 3", "0 != 1", ""} {
		wantTold(t, twoWays(), want, all[:i+1]...)
	}
}

func TestClauseOfGiven(t *testing.T) {
	for i, want := range []string{"0 = 1", "2 != 3", "0 = 1, 2 = 6, 2 != 6", "", "0 != 0, 0 = 3, 3 = 6, 3 != 6, 4 = 4, 4 != 5"} {
		wantTold(t, seven(), want, given(i))
	}
	wantWrong(t, seven(), 0, given(5))
	wantWrong(t, api.Problem{Terms: four()}, 0, given(0))
	most := api.Problem{Terms: names(9), Clauses: make([][]api.Lit, api.MaxClauses)}
	most.Clauses[15] = []api.Lit{not(8, 7), is(8, 8), not(8, 8), is(0, 8), is(8, 7), not(8, 0)}
	wantTold(t, most, "0 = 8, 0 != 8, 7 = 8, 7 != 8, 8 = 8, 8 != 8", given(15))
	wantWrong(t, most, 0, given(16))
}

// Each pair of terms, as it is and turned, is one literal and no other.
func TestClauseOfEachPair(t *testing.T) {
	p := api.Problem{Terms: names(9), Clauses: make([][]api.Lit, 2)}
	all := allLits()
	for i, lit := range all {
		turned := api.Lit{A: lit.B, B: lit.A, Not: lit.Not}
		p.Clauses[0] = []api.Lit{turned, lit, turned}
		wantTold(t, p, toldLits([]api.Lit{lit}), given(0))
		for k, other := range all {
			p.Clauses[1] = []api.Lit{turned, other}
			both := []api.Lit{all[min(i, k)], all[max(i, k)]}
			wantTold(t, p, toldLits(slices.Compact(both)), given(1))
		}
	}
}

func TestClauseOfRefl(t *testing.T) {
	wantTold(t, seven(), "0 = 0", refl(0))
	wantTold(t, seven(), "6 = 6", refl(6))
	wantWrong(t, seven(), 0, refl(7))
	wantTold(t, api.Problem{Terms: names(9)}, "8 = 8", refl(8))
	wantWrong(t, api.Problem{Terms: names(9)}, 0, refl(9))
}

func TestClauseOfTrans(t *testing.T) {
	wantTold(t, seven(), "0 != 1, 0 = 2, 1 != 2", trans(0, 1, 2))
	wantTold(t, seven(), "0 != 1, 0 = 2, 1 != 2", trans(2, 1, 0))
	wantTold(t, seven(), "0 = 1, 0 != 2, 1 != 2", trans(0, 2, 1))
	wantTold(t, seven(), "0 != 1, 1 = 1", trans(1, 0, 1))
	wantTold(t, seven(), "0 != 0, 0 = 1, 0 != 1", trans(0, 0, 1))
	wantTold(t, seven(), "0 = 1, 0 != 1, 1 != 1", trans(0, 1, 1))
	wantTold(t, seven(), "6 = 6, 6 != 6", trans(6, 6, 6))
	for _, wrong := range []api.Step{trans(7, 0, 1), trans(0, 7, 1), trans(0, 1, 7)} {
		wantWrong(t, seven(), 0, wrong)
	}
}

func TestClauseOfCong(t *testing.T) {
	wantTold(t, seven(), "0 != 1, 2 = 3", cong(2, 3))
	wantTold(t, seven(), "0 != 1, 2 = 3", cong(3, 2))
	wantTold(t, seven(), "0 != 1, 4 = 5", cong(4, 5))
	wantTold(t, seven(), "0 != 0, 1 != 1, 5 = 5", cong(5, 5))
	wantTold(t, seven(), "6 = 6", cong(6, 6))
	same := api.Problem{Terms: []api.Term{term(0), {Symbol: 0, Args: []int{}}, term(0, 1), term(0, 0), term(0, 0, 1), term(0, 2, 3), term(1, 0)}}
	wantTold(t, same, "0 = 1", cong(0, 1))
	wantTold(t, same, "0 != 1, 2 = 3", cong(2, 3))
	wantTold(t, same, "0 != 2, 1 != 3, 4 = 5", cong(4, 5))
	// one symbol, but not as many args; as many, but of another symbol
	for _, wrong := range []api.Step{cong(0, 2), cong(2, 1), cong(2, 4), cong(5, 3), cong(4, 0), cong(3, 6), cong(6, 2), cong(6, 7), cong(7, 6), cong(7, 7)} {
		wantWrong(t, same, 0, wrong)
	}
	wantWrong(t, seven(), 0, cong(0, 1))
}

func TestClauseOfCut(t *testing.T) {
	p := seven()
	wantTold(t, p, "2 = 3", given(0), cong(2, 3), cut(0, 1, 0, 1))
	wantTold(t, p, "2 = 3", given(0), cong(3, 2), cut(0, 1, 1, 0))
	wantTold(t, p, "0 != 1, 0 = 3, 1 != 2, 2 != 3", trans(0, 1, 2), trans(0, 2, 3), cut(0, 1, 2, 0))
	// what stands in both clauses stands once
	wantTold(t, p, "0 = 1, 2 = 3, 2 != 6, 3 != 6", given(2), trans(2, 6, 3), cut(0, 1, 6, 2))
	// the literal that goes from the one clause stays if the other has it too
	wantTold(t, p, "0 = 1, 2 = 6, 2 != 6", given(2), given(2), cut(0, 1, 2, 6))
	wantTold(t, p, "0 = 1, 2 = 6, 2 != 6", given(2), cut(0, 0, 6, 2))
	wantTold(t, p, "4 = 4, 4 != 4", trans(4, 4, 4), cut(0, 0, 4, 4))
	wantTold(t, p, "4 = 4", refl(4), trans(4, 4, 4), cut(0, 1, 4, 4))
}

func TestClauseOfWrongCut(t *testing.T) {
	p := seven()
	ahead := list(given(0), cong(2, 3), given(2))
	for _, wrong := range []api.Step{
		cut(3, 1, 0, 1), cut(0, 3, 0, 1), cut(4, 1, 0, 1), cut(0, 4, 0, 1), cut(-1, 1, 0, 1), cut(0, -1, 0, 1),
		cut(1, 0, 0, 1), cut(0, 0, 0, 1), cut(1, 1, 0, 1), cut(0, 1, 2, 3), cut(0, 1, 0, 0), cut(0, 1, 1, 1), cut(0, 1, 0, 2),
		cut(0, 1, 0, 7), cut(0, 1, 7, 0), cut(0, 1, -1, 1), cut(0, 1, 1, -1), cut(1, 2, 2, 3), cut(1, 2, 2, 6), cut(2, 1, 2, 6),
	} {
		wantWrong(t, p, 3, append(slices.Clone(ahead), wrong)...)
		wantWrong(t, p, 3, append(slices.Clone(ahead), wrong, given(3))...)
	}
	wantTold(t, p, "0 = 1, 2 = 6, 2 != 6", append(slices.Clone(ahead), cut(2, 2, 2, 6))...)
}

// What a rule does not need must be 0, whatever stands in it.
func TestClauseNeedsNothingElse(t *testing.T) {
	for _, n := range wildNumbers() {
		if n == 0 {
			continue
		}
		for _, wrong := range []api.Step{
			{Rule: api.Given, B: n}, {Rule: api.Given, C: n}, {Rule: api.Given, D: n},
			{Rule: api.Refl, B: n}, {Rule: api.Refl, C: n}, {Rule: api.Refl, D: n},
			{Rule: api.Trans, A: 1, B: 2, C: 3, D: n},
			{Rule: api.Cong, A: 2, B: 3, C: n}, {Rule: api.Cong, A: 2, B: 3, D: n},
		} {
			wantWrong(t, seven(), 0, wrong)
			wantWrong(t, seven(), 1, given(3), wrong, given(3))
		}
	}
}

// A number that is none, at each place where a rule needs one.
func TestClauseOfWildNumbers(t *testing.T) {
	for _, n := range wildNumbers() {
		wrong := []api.Step{}
		if n < 0 || n > 4 {
			wrong = append(wrong, given(n), api.Step{Rule: n})
		}
		if n < 0 || n > 6 {
			wrong = append(wrong, refl(n), trans(n, 0, 1), trans(0, n, 1), trans(0, 1, n), trans(n, n, n), cong(n, 2), cong(2, n), cong(n, n))
			wrong = append(wrong, cut(n, 1, 0, 1), cut(0, n, 0, 1), cut(0, 1, n, 1), cut(0, 1, 0, n), cut(n, n, n, n))
		}
		for _, step := range wrong {
			wantWrong(t, seven(), 2, given(0), cong(2, 3), step)
			wantWrong(t, seven(), 2, given(0), cong(2, 3), step, given(3))
		}
	}
	wantWrong(t, seven(), 0, api.Step{Rule: 5})
	wantWrong(t, seven(), 0, api.Step{Rule: -1})
}

func TestClauseTellsTheFirstWrongStep(t *testing.T) {
	for n := range 6 {
		steps := []api.Step{given(3), given(0), cong(2, 3), cut(1, 2, 0, 1), refl(0), given(3)}
		steps[n] = refl(7)
		for k := n + 1; k < len(steps); k++ {
			wantWrong(t, seven(), n, steps...)
			steps[k] = api.Step{Rule: 9}
		}
		wantWrong(t, seven(), n, steps...)
	}
}

func TestClauseOfNoSteps(t *testing.T) {
	for _, steps := range [][]api.Step{nil, {}, make([]api.Step, 0, 5)} {
		wantClause(t, seven(), steps, 0, api.ErrOpen)
		wantClause(t, api.Problem{Terms: four()}, steps, 0, api.ErrOpen)
	}
}

// Clause and Check held against the document's words, told another way.
func TestClauseOfManySteps(t *testing.T) {
	r := rand.New(rand.NewPCG(5, 1))
	greatest := 0
	for range 3000 {
		count := 1 + r.IntN(api.MaxTerms)
		p := api.Problem{Terms: someTerms(r, count), Clauses: someClauses(r, count)}
		steps := someSteps(r, p, 1+r.IntN(60))
		clauses := plainFollow(p, steps)
		if len(clauses) < len(steps) {
			wantWrong(t, p, len(clauses), steps...)
			steps = steps[:len(clauses)]
		}
		if len(steps) == 0 {
			continue
		}
		last := clauses[len(clauses)-1]
		greatest = max(greatest, len(last))
		wantTold(t, p, last.told(), steps...)
		want := api.ErrOpen
		if len(last) == 0 {
			want = api.OK
		}
		wantCheck(t, p, steps, len(steps), want)
	}
	if greatest < 12 {
		t.Errorf("the longest clause had %d literals: too few to tell much", greatest)
	}
}

// allLits: each pair of nine terms, both ways, in order.
func allLits() []api.Lit {
	var all []api.Lit
	for a := range 9 {
		for b := a; b < 9; b++ {
			all = append(all, is(a, b), not(a, b))
		}
	}
	return all
}

// Steps may tell clauses longer than a problem may have: up to all literals.
func TestClauseOfAllLiterals(t *testing.T) {
	var rest []api.Lit
	for _, lit := range allLits() {
		if lit.A > 0 && lit.A < lit.B {
			rest = append(rest, lit)
		}
	}
	for b := 1; b < 9; b++ {
		rest = append(rest, is(b, b))
	}
	p := api.Problem{Terms: names(9)}
	for four := range slices.Chunk(rest, 4) {
		p.Clauses = append(p.Clauses, append([]api.Lit{is(0, 0), not(0, 0)}, four...))
	}
	// Where both clauses have a literal both ways, a cut there only joins them.
	steps := []api.Step{given(0)}
	join := func(s api.Step, c, d int) {
		steps = append(steps, s, cut(len(steps)-1, len(steps), c, d))
	}
	for i := range p.Clauses {
		join(given(i), 0, 0)
	}
	wantTold(t, p, plainSet(append(rest, is(0, 0), not(0, 0))).told(), steps...)
	for b := 1; b < 9; b++ {
		join(trans(0, 0, b), 0, 0)
		join(given(0), 1, 2)
		join(trans(0, b, b), b, 0)
	}
	wantTold(t, p, toldLits(allLits()), steps...)
}
