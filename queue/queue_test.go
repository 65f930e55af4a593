package queue_test

import (
	"math/rand/v2"
	"slices"
	"testing"

	"equalproof/queue"
)

// all takes out all that wait.
func all(q *queue.Queue) []int {
	var order []int
	for number, found := q.Next(); found; number, found = q.Next() {
		order = append(order, number)
	}
	return order
}

func want(t *testing.T, q *queue.Queue, order ...int) {
	t.Helper()
	if got := all(q); !slices.Equal(got, order) {
		t.Errorf("Ways: they come out as %v, want %v", got, order)
	}
}

func TestTheHeaviestComesFirst(t *testing.T) {
	q := queue.New(5)
	q.Grow([]int{3})
	q.Grow([]int{1, 4})
	q.Grow([]int{1, 3, 4})
	want(t, q, 3, 1, 4, 0, 2)
}

func TestTheSameWeight(t *testing.T) {
	want(t, queue.New(0))
	want(t, queue.New(6), 0, 1, 2, 3, 4, 5)
	q := queue.New(6)
	q.Grow([]int{5, 2, 4})
	want(t, q, 2, 4, 5, 0, 1, 3)
}

// The fewer have met, the heavier each becomes.
func TestTheShare(t *testing.T) {
	q := queue.New(6)
	q.Grow([]int{0, 1, 2})
	q.Grow([]int{3, 4})
	q.Grow([]int{5})
	want(t, q, 5, 3, 4, 0, 1, 2)
}

func TestLeaveAndReturn(t *testing.T) {
	q := queue.New(4)
	q.Leave(0)
	q.Leave(2)
	q.Leave(2)
	q.Grow([]int{2}) // who does not wait grows too
	want(t, q, 1, 3)
	for _, number := range []int{3, 2, 0, 3} {
		q.Return(number)
	}
	want(t, q, 2, 0, 3)
}

// The queue held against one that looks at all weights each time.
func TestTheOrderOfMany(t *testing.T) {
	r := rand.New(rand.NewPCG(1, 1))
	const count = 45
	q := queue.New(count)
	var weights [count]float32
	var waits [count]bool
	for number := range waits {
		waits[number] = true
	}
	heaviest := func() int {
		best := -1
		for number, weight := range weights {
			if waits[number] && (best < 0 || weight > weights[best]) {
				best = number
			}
		}
		return best
	}
	for range 20000 {
		number := r.IntN(count)
		switch r.IntN(4) {
		case 0:
			q.Leave(number)
			waits[number] = false
		case 1:
			q.Return(number)
			waits[number] = true
		case 2:
			met := r.Perm(count)[:1+r.IntN(4)]
			q.Grow(met)
			for _, one := range met {
				weights[one] += 1 / float32(len(met))
			}
		case 3:
			best := heaviest()
			got, found := q.Next()
			if found != (best >= 0) || found && got != best {
				t.Fatalf("Ways: next comes %d, %v, want %d", got, found, best)
			}
			if found {
				waits[got] = false
			}
		}
	}
}
