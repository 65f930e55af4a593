// Package lits keeps the literals of a clause as a set: none twice, a pair and
// its turned one being one. A set is a plain value, so that what is made of it
// shares nothing with it, and many steps can be kept in little room.
package lits

import (
	"math/bits"

	"equalproof/api"
)

// Set: a bit for each pair of terms that is said to be equal, and one for each
// that is said not to be. There are 45 pairs of MaxTerms terms.
type Set struct {
	equal, apart uint64
}

// Of makes the set of literals whose terms are below MaxTerms.
func Of(list ...api.Lit) Set {
	var set Set
	for _, lit := range list {
		set = set.With(lit)
	}
	return set
}

// Contrary is the literal that holds where this one does not.
func Contrary(lit api.Lit) api.Lit {
	lit.Not = !lit.Not
	return lit
}

// Has tells whether a literal stands in the set.
func (set Set) Has(lit api.Lit) bool {
	if lit.Not {
		return set.apart&bit(lit) != 0
	}
	return set.equal&bit(lit) != 0
}

// With is the set and one literal more.
func (set Set) With(lit api.Lit) Set {
	if lit.Not {
		set.apart |= bit(lit)
	} else {
		set.equal |= bit(lit)
	}
	return set
}

// Without is the set but for one literal.
func (set Set) Without(lit api.Lit) Set {
	if lit.Not {
		set.apart &^= bit(lit)
	} else {
		set.equal &^= bit(lit)
	}
	return set
}

// Union is what stands in one of two sets, or in both.
func (set Set) Union(other Set) Set {
	return Set{equal: set.equal | other.equal, apart: set.apart | other.apart}
}

// Minus is what stands in the set and not in the other.
func (set Set) Minus(other Set) Set {
	return Set{equal: set.equal &^ other.equal, apart: set.apart &^ other.apart}
}

// Meets tells whether something stands in both sets.
func (set Set) Meets(other Set) bool {
	return set.equal&other.equal != 0 || set.apart&other.apart != 0
}

// Contraries is the set of the contraries of what stands in this one.
func (set Set) Contraries() Set {
	return Set{equal: set.apart, apart: set.equal}
}

// Count tells how many literals stand in the set.
func (set Set) Count() int {
	return bits.OnesCount64(set.equal) + bits.OnesCount64(set.apart)
}

// IsEmpty tells whether nothing stands in the set.
func (set Set) IsEmpty() bool {
	return set == Set{}
}

// InOrder tells the literals by rising pairs, the lesser term of each first,
// and the one with Not behind the other.
func (set Set) InOrder() []api.Lit {
	var list []api.Lit
	for lesser := range api.MaxTerms {
		for greater := lesser; greater < api.MaxTerms; greater++ {
			for _, lit := range bothWays(lesser, greater) {
				if set.Has(lit) {
					list = append(list, lit)
				}
			}
		}
	}
	return list
}

func bothWays(a, b int) [2]api.Lit {
	return [2]api.Lit{{A: a, B: b}, {A: a, B: b, Not: true}}
}

// bit is the same for a pair and its turned one.
func bit(lit api.Lit) uint64 {
	lesser, greater := min(lit.A, lit.B), max(lit.A, lit.B)
	return 1 << (greater*(greater+1)/2 + lesser)
}
