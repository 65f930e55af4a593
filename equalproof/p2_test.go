package equalproof_test

import (
	"fmt"
	"math/rand/v2"
	"slices"
	"sync"
	"testing"

	"equalproof/api"
	"equalproof/equalproof"
)

// withRoom makes a list with spare room in which something stands.
func withRoom[T any](filler T, items ...T) []T {
	all := append(slices.Clone(items), filler, filler, filler)
	return all[:len(items)]
}

// whole: a list with its spare room.
func whole[T any](list []T) []T { return list[:cap(list)] }

func roomyTerms(terms []api.Term) []api.Term {
	var copies []api.Term
	for _, one := range terms {
		copies = append(copies, api.Term{Symbol: one.Symbol, Args: withRoom(77, one.Args...)})
	}
	return withRoom(api.Term{Symbol: 55, Args: []int{66}}, copies...)
}

func roomyClauses(clauses [][]api.Lit) [][]api.Lit {
	var copies [][]api.Lit
	for _, clause := range clauses {
		copies = append(copies, withRoom(is(44, 45), clause...))
	}
	return withRoom([]api.Lit{is(33, 34)}, copies...)
}

// tellTerms tells all that stands in terms, spare room too.
func tellTerms(terms []api.Term) string {
	text := fmt.Sprint(len(terms), ":")
	for _, one := range whole(terms) {
		text += fmt.Sprint(one.Symbol, len(one.Args), whole(one.Args), ";")
	}
	return text
}

func tellClauses(clauses [][]api.Lit) string {
	text := fmt.Sprint(len(clauses), ":")
	for _, clause := range whole(clauses) {
		text += fmt.Sprint(len(clause), whole(clause), ";")
	}
	return text
}

func TestCloseLeavesWhatItIsHanded(t *testing.T) {
	r := rand.New(rand.NewPCG(2, 1))
	for range 300 {
		count := 1 + r.IntN(api.MaxTerms)
		terms := roomyTerms(someTerms(r, count))
		pairs := withRoom(api.Pair{A: 88, B: 99}, somePairs(r, count)...)
		before := tellTerms(terms) + fmt.Sprint(whole(pairs))
		first, _ := equalproof.Close(terms, pairs)
		told := fmt.Sprint(first)
		if tellTerms(terms)+fmt.Sprint(whole(pairs)) != before {
			t.Fatalf("P2: Close writes into what it was handed: %s", before)
		}
		for i := range whole(first) {
			whole(first)[i] = -7
		}
		first = append(first, -8, -8, -8, -8)
		if tellTerms(terms)+fmt.Sprint(whole(pairs)) != before {
			t.Fatalf("P2: Close answers memory of what it was handed: %s", before)
		}
		if second, _ := equalproof.Close(terms, pairs); fmt.Sprint(second) != told {
			t.Fatalf("P2: Close(%s) = %v, and ahead of that %s", before, second, told)
		}
	}
}

func TestCloseKeepsNothing(t *testing.T) {
	terms, pairs := four(), []api.Pair{{A: 0, B: 1}}
	first, _ := equalproof.Close(terms, pairs)
	terms[2].Args[0], terms[0].Symbol, pairs[0] = 1, 8, api.Pair{A: 2, B: 3}
	if fmt.Sprint(first) != "[0 0 1 1]" {
		t.Errorf("P2: an answer of Close hangs on what it was handed: %v", first)
	}
	second, _ := equalproof.Close(four(), []api.Pair{{A: 0, B: 1}})
	third, _ := equalproof.Close(four(), nil)
	second[0] = -5
	if fmt.Sprint(first, third) != "[0 0 1 1] [0 1 2 3]" {
		t.Errorf("P2: an answer of Close is changed by what stands in another: %v %v", first, third)
	}
}

func TestTrueLeavesWhatItIsHanded(t *testing.T) {
	r := rand.New(rand.NewPCG(2, 2))
	for range 300 {
		count := 1 + r.IntN(api.MaxTerms)
		p := api.Problem{Terms: roomyTerms(someTerms(r, count)), Clauses: roomyClauses(someClauses(r, count))}
		closed, _ := equalproof.Close(p.Terms, somePairs(r, count))
		classes := withRoom(-3, closed...)
		before := tellTerms(p.Terms) + tellClauses(p.Clauses) + fmt.Sprint(whole(classes))
		first, _ := equalproof.True(p, classes)
		second, _ := equalproof.True(p, classes)
		if tellTerms(p.Terms)+tellClauses(p.Clauses)+fmt.Sprint(whole(classes)) != before {
			t.Fatalf("P2: True writes into what it was handed: %s", before)
		}
		if first != second {
			t.Fatalf("P2: True(%s) is %v, then %v", before, first, second)
		}
	}
}

func TestStepsLeaveWhatTheyAreHanded(t *testing.T) {
	r := rand.New(rand.NewPCG(2, 3))
	for range 300 {
		count := 1 + r.IntN(api.MaxTerms)
		p := api.Problem{Terms: roomyTerms(someTerms(r, count)), Clauses: roomyClauses(someClauses(r, count))}
		steps := withRoom(given(22), someSteps(r, p, r.IntN(20))...)
		tell := func() string { return tellTerms(p.Terms) + tellClauses(p.Clauses) + fmt.Sprint(whole(steps)) }
		before := tell()
		n, e := equalproof.Check(p, steps)
		lits, m, f := equalproof.Clause(p, steps)
		told := fmt.Sprint(n, e, lits, m, f)
		if tell() != before {
			t.Fatalf("P2: Check or Clause writes into what it was handed: %s", before)
		}
		for i := range whole(lits) {
			whole(lits)[i] = not(-7, -7)
		}
		lits = append(lits, is(-8, -8), is(-8, -8), is(-8, -8))
		if tell() != before {
			t.Fatalf("P2: Clause answers memory of what it was handed: %s", before)
		}
		n, e = equalproof.Check(p, steps)
		lits, m, f = equalproof.Clause(p, steps)
		if fmt.Sprint(n, e, lits, m, f) != told {
			t.Fatalf("P2: Check and Clause of %s: %v, and ahead of that %s", before, fmt.Sprint(n, e, lits, m, f), told)
		}
	}
}

func TestClauseKeepsNothing(t *testing.T) {
	p, steps := seven(), []api.Step{given(4)}
	first, _, _ := equalproof.Clause(p, steps)
	want := toldLits(first)
	p.Clauses[4][0], p.Terms[2].Args[0], steps[0] = is(1, 1), 1, refl(0)
	second, _, _ := equalproof.Clause(seven(), []api.Step{given(4)})
	third, _, _ := equalproof.Clause(seven(), []api.Step{given(0)})
	for i := range whole(second) {
		whole(second)[i] = not(-7, -7)
	}
	if toldLits(first) != want || toldLits(third) != "0 = 1" {
		t.Errorf("P2: an answer of Clause is changed by what stands elsewhere: %s; %s", toldLits(first), toldLits(third))
	}
}

// tellAnswer tells what an answer says.
func tellAnswer(answer api.Answer, e api.Errno) string {
	return fmt.Sprint(answer.Holds, len(answer.Classes), answer.Classes, len(answer.Steps), answer.Steps, e)
}

// spoil writes into all of an answer, spare room too.
func spoil(answer api.Answer) {
	for i := range whole(answer.Classes) {
		whole(answer.Classes)[i] = -7
	}
	for i := range whole(answer.Steps) {
		whole(answer.Steps)[i] = given(-7)
	}
}

func TestSolveLeavesWhatItIsHanded(t *testing.T) {
	r := rand.New(rand.NewPCG(2, 4))
	for range 600 {
		count := 1 + r.IntN(api.MaxTerms)
		plain := api.Problem{Terms: someTerms(r, count), Clauses: manyClauses(r, count)}
		p := api.Problem{Terms: roomyTerms(plain.Terms), Clauses: roomyClauses(plain.Clauses)}
		tell := func() string { return tellTerms(p.Terms) + tellClauses(p.Clauses) }
		before := tell()
		answer, e := equalproof.Solve(p)
		told := tellAnswer(answer, e)
		if tell() != before {
			t.Fatalf("P2: Solve writes into what it was handed: %s", before)
		}
		spoil(answer)
		if tell() != before {
			t.Fatalf("P2: Solve answers memory of what it was handed: %s", before)
		}
		if again := tellAnswer(equalproof.Solve(p)); again != told {
			t.Fatalf("P2: Solve(%s) = %s, and ahead of that %s", before, again, told)
		}
		if without := tellAnswer(equalproof.Solve(plain)); without != told {
			t.Fatalf("P2: Solve(%s) = %s, but without spare room %s", before, told, without)
		}
	}
}

func TestSolveKeepsNothing(t *testing.T) {
	holds := func() api.Problem { return api.Problem{Terms: four(), Clauses: [][]api.Lit{{is(0, 1)}}} }
	p, q := twoWays(), holds()
	first, e := equalproof.Solve(p)
	second, f := equalproof.Solve(q)
	told := tellAnswer(first, e) + tellAnswer(second, f)
	p.Clauses[0][0], p.Terms[2].Args[0], q.Clauses[0][0], q.Terms[3].Symbol = not(0, 1), 1, not(0, 1), 7
	third, _ := equalproof.Solve(twoWays())
	fourth, _ := equalproof.Solve(holds())
	spoil(third)
	spoil(fourth)
	if tellAnswer(first, e)+tellAnswer(second, f) != told {
		t.Errorf("P2: an answer of Solve is changed by what stands elsewhere: %v %v", first, second)
	}
	if again := tellAnswer(equalproof.Solve(twoWays())) + tellAnswer(equalproof.Solve(holds())); again != told {
		t.Errorf("P2: Solve answers %s, and ahead of that %s", again, told)
	}
}

// What a call is refused with hangs on its arguments alone, too.
func TestErrorsLeaveNothingBehind(t *testing.T) {
	for range 2 {
		for _, terms := range noTerms() {
			wantClose(t, terms, nil, api.ErrTerms)
		}
		for _, pairs := range noPairs() {
			wantClose(t, four(), pairs, api.ErrPair)
		}
		wantWrong(t, seven(), 1, given(3), refl(7))
		wantCheck(t, seven(), list(given(3)), 1, api.OK)
		wantTold(t, seven(), "0 = 1", given(0))
		wantRefused(t, api.Problem{Terms: four(), Clauses: noClauses()[0]}, api.ErrClause)
		wantSolved(t, twoWays(), false)
		wantSolved(t, api.Problem{Terms: four(), Clauses: twoWays().Clauses[:1]}, true)
		if c, e := equalproof.Close(four(), []api.Pair{{A: 0, B: 1}}); fmt.Sprint(c) != "[0 0 1 1]" || e != api.OK {
			t.Errorf("P2: Close after errors: %v, %d", c, e)
		}
	}
}

func TestCallsBesideEachOther(t *testing.T) {
	var group sync.WaitGroup
	alone := tellAnswer(equalproof.Solve(holes(4, 3)))
	for range 8 {
		group.Go(func() {
			for range 200 {
				if c, _ := equalproof.Close(four(), []api.Pair{{A: 0, B: 2}}); fmt.Sprint(c) != "[0 1 0 2]" {
					t.Errorf("P2: Close beside others: %v", c)
				}
				if b, _ := equalproof.True(api.Problem{Terms: four(), Clauses: [][]api.Lit{{is(2, 3)}}}, []int{0, 1, 2, 2}); !b {
					t.Errorf("P2: True beside others: %v", b)
				}
				if l, _, _ := equalproof.Clause(seven(), []api.Step{given(0), cong(2, 3), cut(0, 1, 0, 1)}); toldLits(l) != "2 = 3" {
					t.Errorf("P2: Clause beside others: %v", l)
				}
				if n, e := equalproof.Check(seven(), []api.Step{given(1), given(3)}); n != 2 || e != api.OK {
					t.Errorf("P2: Check beside others: %d, %d", n, e)
				}
				if told := tellAnswer(equalproof.Solve(holes(4, 3))); told != alone {
					t.Errorf("P2: Solve beside others: %s, alone: %s", told, alone)
				}
			}
		})
	}
	group.Wait()
}
