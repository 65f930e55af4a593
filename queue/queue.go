// Package queue tells which pair is tried next: of the pairs that wait, the
// one with the greatest weight. Pairs are numbers here, from 0 on.
package queue

import "container/heap"

// Queue: the pairs that wait to be tried, and the weights of all.
type Queue struct {
	line line
}

// New makes a queue in which so many pairs wait, all of the same weight.
func New(count int) *Queue {
	q := &Queue{line{weights: make([]float32, count), places: make([]int, count)}}
	for number := range count {
		q.line.places[number] = away
		q.Return(number)
	}
	return q
}

// Next takes the heaviest pair out of the queue, if one waits.
func (q *Queue) Next() (int, bool) {
	if q.line.Len() == 0 {
		return 0, false
	}
	return heap.Pop(&q.line).(int), true
}

// Leave takes a pair out of the queue, if it waits.
func (q *Queue) Leave(number int) {
	if place := q.line.places[number]; place != away {
		heap.Remove(&q.line, place)
	}
}

// Return lets a pair wait again, if it does not.
func (q *Queue) Return(number int) {
	if q.line.places[number] == away {
		heap.Push(&q.line, number)
	}
}

// Grow makes pairs heavier that have met in what failed. They share what is
// added, since the fewer they are, the more each has to do with it.
func (q *Queue) Grow(met []int) {
	share := 1 / float32(len(met))
	for _, number := range met {
		q.line.weights[number] += share
		if place := q.line.places[number]; place != away {
			heap.Fix(&q.line, place)
		}
	}
}

// line is what container/heap keeps in order.
type line struct {
	weights []float32
	waiting []int
	places  []int // of each pair in waiting, or away
}

const away = -1

func (l *line) Len() int { return len(l.waiting) }

// Less lets the lesser number go first where weights are the same, so that
// the order hangs on nothing but them.
func (l *line) Less(i, j int) bool {
	a, b := l.waiting[i], l.waiting[j]
	if l.weights[a] == l.weights[b] {
		return a < b
	}
	return l.weights[a] > l.weights[b]
}

func (l *line) Swap(i, j int) {
	l.waiting[i], l.waiting[j] = l.waiting[j], l.waiting[i]
	l.places[l.waiting[i]], l.places[l.waiting[j]] = i, j
}

func (l *line) Push(x any) {
	number := x.(int)
	l.places[number] = len(l.waiting)
	l.waiting = append(l.waiting, number)
}

func (l *line) Pop() any {
	last := len(l.waiting) - 1
	number := l.waiting[last]
	l.waiting = l.waiting[:last]
	l.places[number] = away
	return number
}
