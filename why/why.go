// Package why shows by steps why two terms are equal, if some pairs are.
package why

import (
	"equalproof/api"
	"equalproof/equality"
	"equalproof/lits"
	"equalproof/proof"
)

// Equal makes the steps that show why a and b are equal if all pairs are, and
// tells the number of the last one: its clause is that a and b are equal, or
// some of the pairs are not. The two must be none of the pairs, but equal with
// them.
func Equal(made *proof.Proof, terms []api.Term, pairs []api.Pair, a, b int) int {
	w := why{made: made, links: equality.Links(terms, pairs)}
	for _, pair := range pairs {
		w.pairs = w.pairs.With(api.Lit{A: pair.A, B: pair.B})
	}
	return w.equal(a, b)
}

type why struct {
	made  *proof.Proof
	links []api.Pair
	pairs lits.Set
}

// equal ends: a way of several links falls into shorter ones, and a link that
// is forced hangs on args between which all links are older than it is.
func (w why) equal(a, b int) int {
	if a == b {
		return w.made.Refl(a)
	}
	next := w.nextTo(a, b)
	if next == b {
		return w.withPairsAlone(w.made.Cong(a, b))
	}
	return w.withPairsAlone(w.made.Trans(a, next, b))
}

// withPairsAlone cuts out of a clause each literal that denies what is none of
// the pairs but follows from them.
func (w why) withPairsAlone(number int) int {
	for _, lit := range w.made.Clause(number).InOrder() {
		if lit.Not && !w.pairs.Has(lits.Contrary(lit)) {
			number = w.made.Cut(number, w.equal(lit.A, lit.B), lit)
		}
	}
	return number
}

// nextTo tells the next term on the way of links from a to b. There is one way
// only, since a link never joins what others have joined.
func (w why) nextTo(a, b int) int {
	for _, link := range w.links {
		if next, touches := otherEnd(link, a); touches && w.reaches(next, b, a) {
			return next
		}
	}
	return b
}

// reaches tells whether there is a way from one term to another that does not
// go back at once.
func (w why) reaches(from, to, back int) bool {
	if from == to {
		return true
	}
	for _, link := range w.links {
		if next, touches := otherEnd(link, from); touches && next != back && w.reaches(next, to, from) {
			return true
		}
	}
	return false
}

func otherEnd(link api.Pair, term int) (int, bool) {
	switch term {
	case link.A:
		return link.B, true
	case link.B:
		return link.A, true
	}
	return 0, false
}
