package equalproof_test

import (
	"fmt"
	"math/rand/v2"
	"slices"
	"testing"

	"equalproof/api"
	"equalproof/equalproof"
)

func tells(t *testing.T, terms []api.Term, classes []int, want bool, clauses ...[]api.Lit) {
	t.Helper()
	p := api.Problem{Terms: terms, Clauses: clauses}
	if holds, e := equalproof.True(p, classes); holds != want || e != api.OK {
		t.Errorf("P4: True(%v, %v) = %v, %d, want %v", p, classes, holds, e, want)
	}
}

func TestTrueSound(t *testing.T) {
	tells(t, four(), []int{0, 1, 2, 3}, true)
	tells(t, four(), []int{0, 0, 1, 1}, true)
	tells(t, four(), []int{0, 0, 0, 0}, true)
	tells(t, four(), []int{0, 1, 1, 1}, true)
	tells(t, four(), []int{0, 1, 1, 0}, true)
	tells(t, four(), []int{0, 0, 1, 2}, false)
	tells(t, four(), []int{0, 0, 0, 1}, false)
	tells(t, four(), []int{0, 0, 1, 0}, false)
	tells(t, []api.Term{term(4), term(4)}, []int{0, 0}, true)
	tells(t, []api.Term{term(4), term(4)}, []int{0, 1}, false)
	tells(t, []api.Term{term(4), term(4, 0)}, []int{0, 1}, true)
	tells(t, []api.Term{term(0), term(1), term(2, 0, 1), term(2, 1, 0)}, []int{0, 1, 2, 3}, true)
	tells(t, []api.Term{term(0), term(1), term(2, 0, 1), term(2, 1, 0)}, []int{0, 0, 1, 2}, false)
}

func TestTrueClauses(t *testing.T) {
	apart, ab, f := []int{0, 1, 2, 3}, []int{0, 0, 1, 1}, []int{0, 1, 2, 2}
	tells(t, four(), ab, true, []api.Lit{is(0, 1)})
	tells(t, four(), ab, true, []api.Lit{is(1, 0)})
	tells(t, four(), apart, false, []api.Lit{is(0, 1)})
	tells(t, four(), apart, true, []api.Lit{not(0, 1)})
	tells(t, four(), ab, false, []api.Lit{not(1, 0)})
	tells(t, four(), apart, true, []api.Lit{is(2, 2)})
	tells(t, four(), apart, false, []api.Lit{not(2, 2)})
	tells(t, four(), f, true, []api.Lit{is(0, 1), is(2, 3)})
	tells(t, four(), f, false, []api.Lit{is(0, 1), not(2, 3)})
	tells(t, four(), ab, true, []api.Lit{is(0, 1)}, []api.Lit{is(2, 3)})
	tells(t, four(), f, false, []api.Lit{is(2, 3)}, []api.Lit{is(0, 1)})
	tells(t, four(), f, false, []api.Lit{is(0, 1)}, []api.Lit{is(2, 3)})
	// all clauses hold, but the classes are not sound
	tells(t, four(), []int{0, 0, 1, 2}, false, []api.Lit{is(0, 1)})
	// the third example
	tells(t, four(), []int{0, 1, 1, 2}, true, []api.Lit{is(0, 1), is(2, 1)}, []api.Lit{not(0, 1)})
	tells(t, four(), ab, false, []api.Lit{is(0, 1), is(2, 1)}, []api.Lit{not(0, 1)})
}

func TestTrueEmptyClause(t *testing.T) {
	tells(t, four(), []int{0, 1, 2, 3}, true)
	tells(t, four(), []int{0, 1, 2, 3}, false, []api.Lit{})
	tells(t, four(), []int{0, 1, 2, 3}, false, nil)
	tells(t, four(), []int{0, 1, 2, 3}, false, []api.Lit{is(0, 0)}, []api.Lit{})
	tells(t, four(), []int{0, 1, 2, 3}, false, []api.Lit{}, []api.Lit{is(0, 0)})
}

func TestTrueAtTheBounds(t *testing.T) {
	good := []int{0, 1, 2, 3}
	six := []api.Lit{is(0, 1), is(0, 2), is(0, 3), is(1, 2), is(1, 3), not(2, 3)}
	clauses := make([][]api.Lit, api.MaxClauses, api.MaxClauses+1)
	for i := range clauses {
		clauses[i] = six
	}
	tells(t, four(), good, true, clauses...)
	last := slices.Clone(clauses)
	last[api.MaxClauses-1] = six[:5]
	tells(t, four(), good, false, last...)
	wantTrue(t, api.Problem{Terms: four(), Clauses: append(clauses, six)}, good, api.ErrClause)
	wantTrue(t, api.Problem{Terms: four(), Clauses: [][]api.Lit{append(slices.Clone(six), is(0, 0))}}, good, api.ErrClause)
	wantTrue(t, api.Problem{Terms: four(), Clauses: [][]api.Lit{{is(3, 3)}, {is(3, 4)}}}, good, api.ErrClause)
	wantTrue(t, api.Problem{Terms: four(), Clauses: [][]api.Lit{{not(4, 3)}}}, good, api.ErrClause)
	wantTrue(t, api.Problem{Terms: four(), Clauses: [][]api.Lit{{not(-1, 3)}}}, good, api.ErrClause)
	tells(t, names(9), []int{0, 1, 2, 3, 4, 5, 6, 7, 8}, true, []api.Lit{not(8, 0)})
	wantTrue(t, api.Problem{Terms: append(names(9), term(0))}, []int{0, 1, 2, 3, 4, 5, 6, 7, 8, 9}, api.ErrTerms)
	wantTrue(t, api.Problem{}, nil, api.ErrTerms)
}

// Every list of up to five numbers from -1 on is classes, or refused.
func TestTrueClassesThatAreNone(t *testing.T) {
	right := map[string]int{}
	for count := range 5 {
		eachClasses(count+1, func(classes []int) { right[fmt.Sprint(classes)]++ })
	}
	var grow func(list []int)
	grow = func(list []int) {
		for count := 1; count <= 5; count++ {
			want := api.ErrPair
			if len(list) == count && right[fmt.Sprint(list)] > 0 {
				want = api.OK
			}
			if holds, e := equalproof.True(api.Problem{Terms: names(count)}, list); e != want || holds != (want == api.OK) {
				t.Errorf("P4: True of %d terms, %v: %v, %d, want %d", count, list, holds, e, want)
			}
		}
		if len(list) < 5 {
			for n := -1; n <= 5; n++ {
				grow(append(slices.Clone(list), n))
			}
		}
	}
	grow(nil)
}

// holdsByCount: a clause holds, seen another way: not all of its literals fail.
func holdsByCount(clause []api.Lit, classes []int) bool {
	fails := 0
	for _, lit := range clause {
		equal := classes[lit.A] == classes[lit.B]
		if lit.Not && equal || !lit.Not && !equal {
			fails++
		}
	}
	return fails < len(clause)
}

func TestTrueOfAllClasses(t *testing.T) {
	r := rand.New(rand.NewPCG(4, 1))
	seen := [2]int{}
	for range 200 {
		count := 1 + r.IntN(6)
		p := api.Problem{Terms: someTerms(r, count), Clauses: someClauses(r, count)}
		eachClasses(count, func(classes []int) {
			want := soundByNames(p.Terms, classes)
			for _, clause := range p.Clauses {
				want = want && holdsByCount(clause, classes)
			}
			if want {
				seen[1]++
			} else {
				seen[0]++
			}
			tells(t, p.Terms, classes, want, p.Clauses...)
		})
	}
	if seen[0] < 1000 || seen[1] < 1000 {
		t.Errorf("too few of one kind to say much: %v", seen)
	}
}
