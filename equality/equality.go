// Package equality finds the classes of terms and tells what holds with them.
// What it is handed must have been found right by package valid.
package equality

import "equalproof/api"

// Close tells the sound classes in which all pairs hold, and in which no two
// terms are equal that need not be.
func Close(terms []api.Term, pairs []api.Pair) []int {
	marks, _ := joinAll(terms, pairs)
	return toClasses(marks)
}

// Links tells the pairs that Close joins, in their order: each is one of pairs,
// or of terms that are alike and whose args are equal by the links ahead. No
// link joins what those ahead have joined: so between two terms that are equal
// there is one way of links, and no other.
func Links(terms []api.Term, pairs []api.Pair) []api.Pair {
	_, links := joinAll(terms, pairs)
	return links
}

// Sound tells whether the classes are sound.
func Sound(terms []api.Term, classes []int) bool {
	_, _, found := findForced(terms, classes)
	return !found
}

// AllHold tells whether each of the clauses holds.
func AllHold(clauses [][]api.Lit, classes []int) bool {
	for _, clause := range clauses {
		if !holds(clause, classes) {
			return false
		}
	}
	return true
}

// Alike tells whether two terms have the same symbol and as many args.
func Alike(a, b api.Term) bool {
	return a.Symbol == b.Symbol && len(a.Args) == len(b.Args)
}

func joinAll(terms []api.Term, pairs []api.Pair) ([]int, []api.Pair) {
	marks := allApart(len(terms))
	var links []api.Pair
	for _, pair := range pairs {
		if marks[pair.A] != marks[pair.B] {
			join(marks, pair.A, pair.B)
			links = append(links, pair)
		}
	}
	// Two terms that are joined may make others equal, ones that have been
	// passed too: so the search starts anew after each. It ends, since each
	// time there is one mark fewer.
	a, b, found := findForced(terms, marks)
	for found {
		join(marks, a, b)
		links = append(links, api.Pair{A: a, B: b})
		a, b, found = findForced(terms, marks)
	}
	return marks, links
}

func holds(clause []api.Lit, classes []int) bool {
	for _, lit := range clause {
		if (classes[lit.A] == classes[lit.B]) != lit.Not {
			return true
		}
	}
	return false
}

// allApart gives each term a mark of its own.
func allApart(count int) []int {
	marks := make([]int, count)
	for number := range marks {
		marks[number] = number
	}
	return marks
}

func join(marks []int, a, b int) {
	stays, goes := marks[a], marks[b]
	for number, mark := range marks {
		if mark == goes {
			marks[number] = stays
		}
	}
}

// findForced finds two terms that are not equal but must be, if there are any.
func findForced(terms []api.Term, marks []int) (int, int, bool) {
	for a := range terms {
		for b := range a {
			if marks[a] != marks[b] && mustBeEqual(terms, marks, a, b) {
				return a, b, true
			}
		}
	}
	return 0, 0, false
}

func mustBeEqual(terms []api.Term, marks []int, a, b int) bool {
	if !Alike(terms[a], terms[b]) {
		return false
	}
	for place, arg := range terms[a].Args {
		if marks[arg] != marks[terms[b].Args[place]] {
			return false
		}
	}
	return true
}

// toClasses tells in the document's numbers what marks tell in any.
func toClasses(marks []int) []int {
	classes := make([]int, len(marks))
	next := 0
	for number, mark := range marks {
		first := firstWith(marks, mark)
		if first < number {
			classes[number] = classes[first]
			continue
		}
		classes[number] = next
		next++
	}
	return classes
}

// firstWith finds the first term with a mark that one of them has.
func firstWith(marks []int, wanted int) int {
	first := 0
	for marks[first] != wanted {
		first++
	}
	return first
}
