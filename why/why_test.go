package why_test

import (
	"math/rand/v2"
	"testing"

	"equalproof/api"
	"equalproof/equality"
	"equalproof/lits"
	"equalproof/proof"
	"equalproof/steps"
	"equalproof/why"
)

func some(r *rand.Rand, count int) ([]api.Term, []api.Pair) {
	terms := make([]api.Term, count)
	for i := range terms {
		terms[i].Symbol = r.IntN(2)
		for range min(i, r.IntN(api.MaxArgs+1)) {
			terms[i].Args = append(terms[i].Args, r.IntN(i))
		}
		if len(terms[i].Args) == 0 {
			terms[i].Symbol = r.IntN(10)
		}
	}
	pairs := make([]api.Pair, r.IntN(5))
	for i := range pairs {
		pairs[i] = api.Pair{A: r.IntN(count), B: r.IntN(count)}
	}
	return terms, pairs
}

// All that Close makes equal is shown, and by the pairs alone.
func TestAllThatIsEqualIsShown(t *testing.T) {
	r := rand.New(rand.NewPCG(1, 1))
	longest := 0
	for range 5000 {
		terms, pairs := some(r, 1+r.IntN(api.MaxTerms))
		p := api.Problem{Terms: terms}
		classes := equality.Close(terms, pairs)
		var said, denied lits.Set
		for _, pair := range pairs {
			said = said.With(api.Lit{A: pair.A, B: pair.B})
		}
		denied = said.Contraries()
		for a := range terms {
			for b := range terms {
				lit := api.Lit{A: a, B: b}
				if classes[a] != classes[b] || said.Has(lit) {
					continue
				}
				made := proof.New(p)
				list := made.UpTo(why.Equal(made, terms, pairs, a, b))
				longest = max(longest, len(list))
				clause, right := steps.Follow(p, list)
				if right != len(list) {
					t.Fatalf("P7: step %d of %v is not right; terms %v", right, list, terms)
				}
				if !clause.Has(lit) || !clause.Without(lit).Minus(denied).IsEmpty() {
					t.Fatalf("P7: that %d = %d, with %v, is shown as %v; terms %v", a, b, pairs, clause.InOrder(), terms)
				}
			}
		}
	}
	if longest < 12 {
		t.Errorf("the longest steps were %d: too few to tell much", longest)
	}
}
