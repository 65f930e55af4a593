package equalproof_test

import (
	"fmt"
	"math"
	"math/rand/v2"
	"slices"
	"testing"
	"time"

	"equalproof/api"
)

func term(symbol int, args ...int) api.Term { return api.Term{Symbol: symbol, Args: args} }

func is(a, b int) api.Lit { return api.Lit{A: a, B: b} }

func not(a, b int) api.Lit { return api.Lit{A: a, B: b, Not: true} }

// four: a, b, f(a), f(b).
func four() []api.Term { return []api.Term{term(0), term(1), term(2, 0), term(2, 1)} }

// names: terms without args, of which no two are alike.
func names(count int) []api.Term {
	terms := make([]api.Term, count)
	for i := range terms {
		terms[i] = term(i)
	}
	return terms
}

// wildNumbers: those that are no number of anything, or just one.
func wildNumbers() []int {
	return []int{math.MinInt, math.MinInt + 1, math.MinInt32, -10, -1, 0, 1, 3, 4, 8, 9, 10, 1 << 32, math.MaxInt - 1, math.MaxInt}
}

// noTerms: lists that are no terms, each for one reason.
func noTerms() [][]api.Term {
	lists := [][]api.Term{
		nil, {}, make([]api.Term, 10), make([]api.Term, 1<<20),
		{term(-1)}, {term(10)}, {term(math.MinInt)}, {term(math.MaxInt)},
		append(names(8), term(10)), append(names(8), term(-1)),
		{term(0, 0)}, {term(0), term(1, 1)}, {term(0), term(1, 2), term(2)}, {term(0), term(1, 0, 1)}, {term(0), term(1, 1, 0)},
		{term(0), term(1, -1)}, {term(0), term(1, 0, -1)}, {term(0), term(1, math.MinInt)}, {term(0), term(1, math.MaxInt)},
		{term(0), term(1, 0, 0, 0)}, {term(0), {Symbol: 1, Args: make([]int, 1<<20)}},
		append(names(8), term(9, 8)), append(names(8), term(9, 0, 0, 0)),
	}
	return lists
}

// noPairs: lists that are no pairs of four terms.
func noPairs() [][]api.Pair {
	lists := [][]api.Pair{make([]api.Pair, api.MaxPairs+1), make([]api.Pair, 1<<20)}
	for _, n := range wildNumbers() {
		if n < 0 || n > 3 {
			lists = append(lists, []api.Pair{{A: n, B: 0}}, []api.Pair{{A: 0, B: n}}, []api.Pair{{A: 0, B: 1}, {A: n, B: n}})
		}
	}
	last := make([]api.Pair, api.MaxPairs)
	last[api.MaxPairs-1].B = 4
	return append(lists, last)
}

// noClauses: lists that are no clauses about four terms.
func noClauses() [][][]api.Lit {
	lists := [][][]api.Lit{
		make([][]api.Lit, api.MaxClauses+1), make([][]api.Lit, 1<<20),
		{make([]api.Lit, api.MaxLits+1)}, {{}, make([]api.Lit, 1<<20)},
	}
	for _, n := range wildNumbers() {
		if n < 0 || n > 3 {
			lists = append(lists, [][]api.Lit{{is(n, 0)}}, [][]api.Lit{{not(0, n)}}, [][]api.Lit{{is(0, 0), is(0, n)}}, [][]api.Lit{{}, {not(n, n)}})
		}
	}
	last := make([][]api.Lit, api.MaxClauses)
	last[api.MaxClauses-1] = []api.Lit{is(0, 0), is(0, 0), is(0, 0), is(0, 0), is(0, 0), is(4, 0)}
	return append(lists, last)
}

// noClasses: lists that are no classes of four terms.
func noClasses() [][]int {
	lists := [][]int{
		nil, {}, {0}, {0, 1, 2}, {0, 1, 2, 3, 4}, {0, 0, 0, 0, 0}, make([]int, 1<<20),
		{1, 0, 2, 3}, {1, 1, 1, 1}, {0, 2, 1, 3}, {0, 1, 3, 2}, {0, 1, 2, 4}, {0, 0, 2, 1}, {0, 0, 0, 2}, {0, 1, 0, 3},
	}
	for _, n := range wildNumbers() {
		if n < 0 || n > 3 {
			lists = append(lists, []int{n, 0, 1, 2}, []int{0, n, 1, 2}, []int{0, 1, 2, n})
		}
	}
	return lists
}

// ends fails the test if what is done panics or goes on for too long.
func ends(t *testing.T, name string, do func()) {
	t.Helper()
	done := make(chan any, 1)
	go func() {
		defer func() { done <- recover() }()
		do()
	}()
	select {
	case caught := <-done:
		if caught != nil {
			t.Fatalf("P1: %s panics: %v", name, caught)
		}
	case <-time.After(time.Minute):
		t.Fatalf("P1: %s does not end", name)
	}
}

// eachClasses goes through all classes of count terms.
func eachClasses(count int, tell func([]int)) {
	var grow func(classes []int, next int)
	grow = func(classes []int, next int) {
		if len(classes) == count {
			tell(slices.Clone(classes))
			return
		}
		for class := 0; class <= next; class++ {
			grow(append(classes, class), max(next, class+1))
		}
	}
	grow(nil, 0)
}

// soundByNames: sound, seen another way: each name of what a term is made of,
// its args told by their classes, belongs to one class.
func soundByNames(terms []api.Term, classes []int) bool {
	owner := map[string]int{}
	for i, one := range terms {
		name := fmt.Sprint(one.Symbol)
		for _, arg := range one.Args {
			name += fmt.Sprint(",", classes[arg])
		}
		if class, known := owner[name]; known && class != classes[i] {
			return false
		}
		owner[name] = classes[i]
	}
	return true
}

// someTerms makes terms, few symbols among them, so that many are alike.
func someTerms(r *rand.Rand, count int) []api.Term {
	terms := make([]api.Term, count)
	for i := range terms {
		terms[i].Symbol = r.IntN(3)
		if i > 0 {
			for range r.IntN(api.MaxArgs + 1) {
				terms[i].Args = append(terms[i].Args, r.IntN(i))
			}
		}
		if len(terms[i].Args) == 0 {
			terms[i].Symbol = i
		}
	}
	return terms
}

func somePairs(r *rand.Rand, count int) []api.Pair {
	pairs := make([]api.Pair, r.IntN(4))
	for i := range pairs {
		pairs[i] = api.Pair{A: r.IntN(count), B: r.IntN(count)}
	}
	return pairs
}

func someClauses(r *rand.Rand, count int) [][]api.Lit {
	clauses := make([][]api.Lit, r.IntN(4))
	for i := range clauses {
		for range 1 + r.IntN(api.MaxLits) {
			clauses[i] = append(clauses[i], api.Lit{A: r.IntN(count), B: r.IntN(count), Not: r.IntN(2) == 0})
		}
	}
	return clauses
}
