package equalproof_test

import (
	"math/rand/v2"
	"slices"
	"testing"

	"equalproof/api"
	"equalproof/equalproof"
)

func closes(t *testing.T, terms []api.Term, want []int, pairs ...api.Pair) {
	t.Helper()
	if classes, e := equalproof.Close(terms, pairs); !slices.Equal(classes, want) || e != api.OK {
		t.Errorf("P3: Close(%v, %v) = %v, %d, want %v", terms, pairs, classes, e, want)
	}
}

func pair(a, b int) api.Pair { return api.Pair{A: a, B: b} }

func TestCloseExamples(t *testing.T) {
	closes(t, four(), []int{0, 0, 1, 1}, pair(0, 1))
	closes(t, four(), []int{0, 0, 1, 1}, pair(1, 0))
	closes(t, four(), []int{0, 1, 2, 3})
	closes(t, four(), []int{0, 1, 2, 2}, pair(2, 3))
	closes(t, four(), []int{0, 1, 2, 3}, pair(1, 1), pair(3, 3))
}

func TestCloseSameInAll(t *testing.T) {
	closes(t, []api.Term{term(4), term(4)}, []int{0, 0})
	closes(t, []api.Term{term(4), term(4, 0), term(4, 0), term(4, 0, 0), term(4, 0, 0)}, []int{0, 1, 1, 2, 2})
	closes(t, []api.Term{term(4), term(4), term(5, 0), term(5, 1), term(6, 2, 0), term(6, 3, 1)}, []int{0, 0, 1, 1, 2, 2})
	closes(t, make([]api.Term, api.MaxTerms), make([]int, api.MaxTerms))
	// no args, told by nil and by a list of nothing
	closes(t, []api.Term{{Symbol: 3}, {Symbol: 3, Args: []int{}}}, []int{0, 0})
}

func TestCloseNotAlike(t *testing.T) {
	closes(t, []api.Term{term(0), term(1, 0), term(2, 0)}, []int{0, 1, 2})
	closes(t, []api.Term{term(0), term(1, 0), term(1, 0, 0), term(1)}, []int{0, 1, 2, 3})
	closes(t, []api.Term{term(0), term(1), term(2, 0, 1), term(2, 1, 0)}, []int{0, 1, 2, 3})
	closes(t, []api.Term{term(0), term(1), term(2, 0, 0), term(2, 0, 1), term(2, 1, 1)}, []int{0, 1, 2, 3, 4})
}

func TestCloseThroughOthers(t *testing.T) {
	// by one after the other
	closes(t, names(5), []int{0, 0, 0, 1, 1}, pair(0, 2), pair(3, 4), pair(1, 2))
	// f(a) = c, f(b) = d, a = b: then c = d, so g(c) = g(d)
	terms := []api.Term{term(0), term(1), term(2), term(3), term(4, 0), term(4, 1), term(5, 2), term(5, 3)}
	closes(t, terms, []int{0, 0, 1, 1, 1, 1, 2, 2}, pair(4, 2), pair(5, 3), pair(0, 1))
	// what is joined last makes terms equal that come ahead of it: f(a), f(b), g(c), g(d), g(c) = a, g(d) = b, c = d
	terms = []api.Term{term(0), term(1), term(4, 0), term(4, 1), term(2), term(3), term(5, 4), term(5, 5)}
	closes(t, terms, []int{0, 0, 1, 1, 2, 2, 0, 0}, pair(6, 0), pair(7, 1), pair(4, 5))
	// the same over eight terms, two times back
	terms = []api.Term{term(0), term(1), term(2, 0), term(2, 1), term(3, 2), term(3, 3), term(4, 4), term(4, 5), term(5)}
	closes(t, terms, []int{0, 0, 1, 1, 2, 2, 3, 3, 4}, pair(0, 1))
	closes(t, terms, []int{0, 1, 2, 3, 4, 4, 5, 5, 6}, pair(4, 5))
	// f(f(f(a))) = a and f(f(f(f(f(a))))) = a: then f(a) = a
	chain := []api.Term{term(0), term(1, 0), term(1, 1), term(1, 2), term(1, 3), term(1, 4)}
	closes(t, chain, []int{0, 1, 2, 0, 1, 2}, pair(3, 0))
	closes(t, chain, []int{0, 0, 0, 0, 0, 0}, pair(3, 0), pair(5, 0))
}

func TestCloseAtTheBounds(t *testing.T) {
	closes(t, names(1), []int{0})
	closes(t, []api.Term{term(api.MaxSymbol)}, []int{0})
	closes(t, names(api.MaxTerms), []int{0, 1, 2, 3, 4, 5, 6, 7, 8})
	closes(t, append(names(8), term(9, 7, 7)), []int{0, 1, 2, 3, 4, 5, 6, 7, 8})
	wantClose(t, names(0), nil, api.ErrTerms)
	wantClose(t, append(names(9), term(0)), nil, api.ErrTerms)
	wantClose(t, []api.Term{term(api.MaxSymbol + 1)}, nil, api.ErrTerms)
	wantClose(t, []api.Term{term(-1)}, nil, api.ErrTerms)
	wantClose(t, []api.Term{term(0), term(1, 0, 0)}, nil, api.OK)
	wantClose(t, []api.Term{term(0), term(1, 0, 0, 0)}, nil, api.ErrTerms)
	pairs := make([]api.Pair, api.MaxPairs+1)
	pairs[api.MaxPairs-1] = pair(3, 2)
	closes(t, four(), []int{0, 1, 2, 2}, pairs[:api.MaxPairs]...)
	wantClose(t, four(), pairs, api.ErrPair)
	wantClose(t, four(), []api.Pair{pair(4, 0)}, api.ErrPair)
	wantClose(t, four(), []api.Pair{pair(0, -1)}, api.ErrPair)
	wantClose(t, names(9), []api.Pair{pair(8, 8), pair(9, 8)}, api.ErrPair)
}

// least: what all sound classes, in which the pairs hold, have in common.
func least(terms []api.Term, pairs []api.Pair) (equal [api.MaxTerms][api.MaxTerms]bool) {
	for a := range equal {
		for b := range equal[a] {
			equal[a][b] = true
		}
	}
	eachClasses(len(terms), func(classes []int) {
		for _, one := range pairs {
			if classes[one.A] != classes[one.B] {
				return
			}
		}
		if !soundByNames(terms, classes) {
			return
		}
		for a := range terms {
			for b := range terms {
				equal[a][b] = equal[a][b] && classes[a] == classes[b]
			}
		}
	})
	return equal
}

func checkLeast(t *testing.T, terms []api.Term, pairs []api.Pair) {
	t.Helper()
	classes, e := equalproof.Close(terms, pairs)
	if e != api.OK || len(classes) != len(terms) {
		t.Fatalf("P3: Close(%v, %v) = %v, %d", terms, pairs, classes, e)
	}
	equal := least(terms, pairs)
	greatest := -1
	for a, class := range classes {
		if class < 0 || class > greatest+1 {
			t.Fatalf("P3: Close(%v, %v) = %v: no classes", terms, pairs, classes)
		}
		greatest = max(greatest, class)
		for b := range classes {
			if equal[a][b] != (class == classes[b]) {
				t.Fatalf("P3: Close(%v, %v) = %v: %d and %d", terms, pairs, classes, a, b)
			}
		}
	}
}

func TestCloseIsTheLeast(t *testing.T) {
	r := rand.New(rand.NewPCG(3, 1))
	for range 1500 {
		count := 1 + r.IntN(6)
		checkLeast(t, someTerms(r, count), somePairs(r, count))
	}
	for range 10 {
		checkLeast(t, someTerms(r, api.MaxTerms), somePairs(r, api.MaxTerms))
	}
}
