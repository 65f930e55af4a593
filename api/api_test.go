package api_test

import (
	"testing"

	"equalproof/api"
)

func TestNumbers(t *testing.T) {
	for i, e := range []api.Errno{api.OK, api.ErrTerms, api.ErrPair, api.ErrClause, api.ErrStep, api.ErrOpen} {
		if int(e) != i {
			t.Errorf("the error named in place %d has the number %d", i, e)
		}
	}
	for i, rule := range []int{api.Given, api.Refl, api.Trans, api.Cong, api.Cut} {
		if rule != i {
			t.Errorf("the rule named in place %d has the number %d", i, rule)
		}
	}
	bounds := [6]int{api.MaxTerms, api.MaxSymbol, api.MaxArgs, api.MaxClauses, api.MaxLits, api.MaxPairs}
	if bounds != [6]int{9, 9, 2, 16, 6, 60} {
		t.Errorf("the bounds are %v", bounds)
	}
}
