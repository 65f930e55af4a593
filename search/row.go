package search

import (
	"equalproof/api"
	"equalproof/equality"
	"equalproof/why"
)

// entry: a literal of the row, of the pair with that number. The reason is the
// number of a step whose clause has the literal, and else only what those ahead
// deny; or it is none of a step.
type entry struct {
	pair   int
	lit    api.Lit
	reason int
}

const (
	tried  = -1
	closed = -2 // equal in the classes of those ahead
)

// take puts the literal of a pair at the end of the row.
func (s *search) take(pair int, not bool, reason int) {
	lit := s.lit(pair, not)
	s.queue.Leave(pair)
	s.row = append(s.row, entry{pair, lit, reason})
	s.taken = s.taken.With(lit)
}

// untake takes the last entry out of the row.
func (s *search) untake() entry {
	end := len(s.row) - 1
	last := s.row[end]
	s.row = s.row[:end]
	s.taken = s.taken.Without(last.lit)
	s.queue.Return(last.pair)
	return last
}

// reasonOf tells the reason of the entry that has just been untaken, as a step.
// Why terms are equal is shown here, and not when it is seen, since most of it
// is never asked for.
func (s *search) reasonOf(last entry) int {
	if last.reason == closed {
		return s.whyEqual(last.lit)
	}
	return last.reason
}

func (s *search) whyEqual(lit api.Lit) int {
	return why.Equal(s.made, s.terms, s.equalPairs(), lit.A, lit.B)
}

// takeForced takes what must hold with the row, till there is nothing more, or
// a clause fails: then it tells the number of its step.
func (s *search) takeForced() (int, bool) {
	for {
		if failed, found := s.takeEqual(); found {
			return failed, true
		}
		before := len(s.row)
		if failed, found := s.takeLast(); found {
			return failed, true
		}
		if len(s.row) == before {
			return 0, false
		}
	}
}

// takeEqual takes all pairs that are equal in the classes of the row.
func (s *search) takeEqual() (int, bool) {
	classes := equality.Close(s.terms, s.equalPairs())
	for number, pair := range s.pairs {
		if classes[pair.A] != classes[pair.B] {
			continue
		}
		if s.taken.Has(s.lit(number, true)) {
			return s.whyEqual(s.lit(number, true)), true
		}
		if !s.taken.Has(s.lit(number, false)) {
			s.take(number, false, closed)
		}
	}
	return 0, false
}

// takeLast takes the literals that are left alone in their clauses.
func (s *search) takeLast() (int, bool) {
	for _, step := range s.known {
		clause := s.made.Clause(step)
		if clause.Meets(s.taken) {
			continue
		}
		left := clause.Minus(s.taken.Contraries())
		if left.IsEmpty() {
			return step, true
		}
		if left.Count() == 1 {
			s.takeLit(left.InOrder()[0], step)
		}
	}
	return 0, false
}

func (s *search) takeLit(lit api.Lit, reason int) {
	for number, pair := range s.pairs {
		if pair.A == lit.A && pair.B == lit.B {
			s.take(number, lit.Not, reason)
		}
	}
}

// equalPairs tells the pairs that are equal by the row.
func (s *search) equalPairs() []api.Pair {
	var pairs []api.Pair
	for _, one := range s.row {
		if !one.lit.Not {
			pairs = append(pairs, api.Pair{A: one.lit.A, B: one.lit.B})
		}
	}
	return pairs
}

func (s *search) lit(pair int, not bool) api.Lit {
	return api.Lit{A: s.pairs[pair].A, B: s.pairs[pair].B, Not: not}
}
