package agenda

import "container/heap"

// entry is something that is to come.
type entry[T any] struct {
	at   int
	turn int
	what T
}

// queue is a heap of what is to come: what comes next is its first one.
// Its exported methods are those that container/heap calls.
type queue[T any] []*entry[T]

// put brings something in.
func (q *queue[T]) put(e *entry[T]) { heap.Push(q, e) }

// takeFrom takes out what is at a place.
func (q *queue[T]) takeFrom(place int) *entry[T] {
	return heap.Remove(q, place).(*entry[T])
}

// Len is how many there are.
func (q queue[T]) Len() int { return len(q) }

// Less tells whether one comes ahead of another one: of two at one time the one that was put first.
func (q queue[T]) Less(i, j int) bool {
	if q[i].at != q[j].at {
		return q[i].at < q[j].at
	}
	return q[i].turn < q[j].turn
}

// Swap lets two change places.
func (q queue[T]) Swap(i, j int) { q[i], q[j] = q[j], q[i] }

// Push puts one behind the others.
func (q *queue[T]) Push(x any) { *q = append(*q, x.(*entry[T])) }

// Pop takes the one behind all others off.
func (q *queue[T]) Pop() any {
	last := len(*q) - 1
	e := (*q)[last]
	(*q)[last] = nil // or what came would be held in the room behind the list's end
	*q = (*q)[:last]
	return e
}
