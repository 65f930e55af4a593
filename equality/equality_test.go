package equality_test

import (
	"slices"
	"testing"

	"equalproof/api"
	"equalproof/equality"
)

// f(a), f(b), g(f(a)), g(f(b)): links are told in their order, each once.
func TestLinks(t *testing.T) {
	terms := []api.Term{{Symbol: 0}, {Symbol: 1}, {Symbol: 2, Args: []int{0}}, {Symbol: 2, Args: []int{1}}, {Symbol: 3, Args: []int{2}}, {Symbol: 3, Args: []int{3}}}
	for _, c := range []struct{ pairs, want []api.Pair }{
		{nil, nil},
		{[]api.Pair{{A: 4, B: 4}}, nil},
		{[]api.Pair{{A: 1, B: 0}}, []api.Pair{{A: 1, B: 0}, {A: 3, B: 2}, {A: 5, B: 4}}},
		{[]api.Pair{{A: 2, B: 3}, {A: 3, B: 2}}, []api.Pair{{A: 2, B: 3}, {A: 5, B: 4}}},
		{[]api.Pair{{A: 5, B: 4}, {A: 0, B: 5}, {A: 0, B: 4}}, []api.Pair{{A: 5, B: 4}, {A: 0, B: 5}}},
	} {
		if got := equality.Links(terms, c.pairs); !slices.Equal(got, c.want) {
			t.Errorf("the links of %v are %v, want %v", c.pairs, got, c.want)
		}
	}
}
