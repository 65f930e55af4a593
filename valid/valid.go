// Package valid tells whether what is handed in is what the document calls
// terms, pairs, clauses and classes. Every length is looked at ahead of what
// stands in the list, so that a list of any length is refused at once.
package valid

import "equalproof/api"

// Terms tells whether these are terms.
func Terms(terms []api.Term) bool {
	if len(terms) < 1 || len(terms) > api.MaxTerms {
		return false
	}
	for number, term := range terms {
		if !isTerm(term, number) {
			return false
		}
	}
	return true
}

// Pairs tells whether these are pairs of count terms, and not too many.
func Pairs(pairs []api.Pair, count int) bool {
	if len(pairs) > api.MaxPairs {
		return false
	}
	for _, pair := range pairs {
		if !Below(pair.A, count) || !Below(pair.B, count) {
			return false
		}
	}
	return true
}

// Clauses tells whether these are clauses about count terms, and not too many.
func Clauses(clauses [][]api.Lit, count int) bool {
	if len(clauses) > api.MaxClauses {
		return false
	}
	for _, clause := range clauses {
		if !isClause(clause, count) {
			return false
		}
	}
	return true
}

// Classes tells whether these are classes of count terms.
func Classes(classes []int, count int) bool {
	if len(classes) != count {
		return false
	}
	// All numbers below next stand ahead, since none is ever passed over.
	next := 0
	for _, class := range classes {
		if !Below(class, next+1) {
			return false
		}
		if class == next {
			next++
		}
	}
	return true
}

// Below tells whether this is the number of one of so many, from 0 on.
func Below(number, end int) bool {
	return number >= 0 && number < end
}

func isTerm(term api.Term, number int) bool {
	if !Below(term.Symbol, api.MaxSymbol+1) || len(term.Args) > api.MaxArgs {
		return false
	}
	for _, arg := range term.Args {
		if !Below(arg, number) {
			return false
		}
	}
	return true
}

func isClause(clause []api.Lit, count int) bool {
	if len(clause) > api.MaxLits {
		return false
	}
	for _, lit := range clause {
		if !Below(lit.A, count) || !Below(lit.B, count) {
			return false
		}
	}
	return true
}
