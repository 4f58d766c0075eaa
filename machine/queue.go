package machine

import (
	"container/heap"

	"sepal/api"
)

// queue is a heap of threads, with that of the least number in front. There can be as many threads as steps, so that going through all of them at each step would take too long.
type queue []*thread

func (q queue) Len() int           { return len(q) }
func (q queue) Less(i, j int) bool { return q[i].number < q[j].number }
func (q queue) Swap(i, j int)      { q[i], q[j] = q[j], q[i] }
func (q *queue) Push(x any)        { *q = append(*q, x.(*thread)) }

func (q *queue) Pop() any {
	n := len(*q) - 1
	t := (*q)[n]
	*q = (*q)[:n]
	return t
}

// pick takes the thread with the least number that can step out of those that are ready; nil if there is none. Threads that it finds before a lock that is held wait for that.
func (s *state) pick() *thread {
	for len(s.ready) > 0 {
		t := heap.Pop(&s.ready).(*thread)
		x := t.top().next()
		if x.Kind != api.With || !s.held[x.Name] {
			return t
		}
		heap.Push(s.waiting[x.Name], t)
	}
	return nil
}

// release ends the holding of a lock. It is enough to wake the first of the threads that wait for it: the next release wakes the next one.
func (s *state) release(lock string) {
	delete(s.held, lock)
	if q := s.waiting[lock]; len(*q) > 0 {
		heap.Push(&s.ready, heap.Pop(q))
	}
}
