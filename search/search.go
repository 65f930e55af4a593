// Package search looks for classes with which a problem holds, or for steps
// that show that there are none. The problem must have been found right by
// package valid.
//
// What is taken to hold is a row of literals: some are tried, each other must
// hold if those ahead of it do. Where a clause fails, all literals of which the
// row denies, one goes back through the row and cuts out of the clause what had
// to hold, up to a tried literal that the clause denies: that one is turned,
// the clause being the reason. So the clause tells at each time why not all of
// the row can hold; when it is empty, that nothing can.
package search

import (
	"equalproof/api"
	"equalproof/equality"
	"equalproof/lits"
	"equalproof/proof"
	"equalproof/queue"
)

// Solve answers whether a problem can hold, and shows it.
func Solve(p api.Problem) api.Answer {
	s := start(p)
	failed, holds := s.run()
	if holds {
		return api.Answer{Holds: true, Classes: equality.Close(p.Terms, s.equalPairs())}
	}
	return api.Answer{Steps: s.made.UpTo(failed)}
}

// search: how far one has come.
type search struct {
	terms []api.Term
	made  *proof.Proof
	known []int      // steps: the problem's clauses, and those that failed
	pairs []api.Pair // all that stand in clauses
	queue *queue.Queue
	row   []entry
	taken lits.Set // the literals of the row
}

// start lets those pairs wait that stand in clauses. No others need be tried,
// since no clause asks for them.
func start(p api.Problem) *search {
	s := &search{terms: p.Terms, made: proof.New(p)}
	var stand lits.Set
	for number := range p.Clauses {
		step := s.made.Given(number)
		s.known = append(s.known, step)
		stand = stand.Union(s.made.Clause(step))
	}
	for _, lit := range stand.Union(stand.Contraries()).InOrder() {
		if !lit.Not {
			s.pairs = append(s.pairs, api.Pair{A: lit.A, B: lit.B})
		}
	}
	s.queue = queue.New(len(s.pairs))
	return s
}

// run tells whether all holds with the row at last; if not, the number of the
// step whose clause is empty.
func (s *search) run() (int, bool) {
	var failed, pair int
	var found bool
	var last entry
look:
	if failed, found = s.takeForced(); found {
		goto back
	}
	if pair, found = s.queue.Next(); found {
		goto try
	}
	return 0, true
try:
	// Not to be equal comes first: as nothing forces the two to be equal, no
	// more can fail by that than a clause that asks for it.
	s.take(pair, true, tried)
	goto look
back:
	if s.made.Clause(failed).IsEmpty() {
		return failed, false
	}
	last = s.untake()
	if !s.made.Clause(failed).Has(lits.Contrary(last.lit)) {
		goto back
	}
	if last.reason == tried {
		goto turn
	}
	failed = s.made.Cut(s.reasonOf(last), failed, last.lit)
	goto back
turn:
	s.learn(failed)
	s.take(last.pair, !last.lit.Not, failed)
	goto look
}

// learn keeps a clause that failed, so that the same is not tried again, and
// makes the pairs heavier that have met in it.
func (s *search) learn(failed int) {
	s.known = append(s.known, failed)
	clause := s.made.Clause(failed)
	var met []int
	for number := range s.pairs {
		if clause.Has(s.lit(number, false)) || clause.Has(s.lit(number, true)) {
			met = append(met, number)
		}
	}
	s.queue.Grow(met)
}
