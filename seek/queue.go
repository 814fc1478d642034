package seek

import (
	"container/heap"
	"iter"
	"sort"
)

// pile is lengths, as a heap.
type pile struct{ sort.IntSlice }

// Push is for package heap.
func (p *pile) Push(x any) { p.IntSlice = append(p.IntSlice, x.(int)) }

// Pop is for package heap.
func (p *pile) Pop() any {
	last := p.Len() - 1
	x := p.IntSlice[last]
	p.IntSlice = p.IntSlice[:last]
	return x
}

// queue is what waits, by its length. Many things have one length, so the pile holds each length once.
type queue[T any] struct {
	lengths pile
	rows    map[int][]T
}

// empty is a queue of nothing.
func empty[T any]() *queue[T] { return &queue[T]{rows: map[int][]T{}} }

// put lets x wait.
func (q *queue[T]) put(long int, x T) {
	row, old := q.rows[long]
	if !old {
		heap.Push(&q.lengths, long)
	}
	q.rows[long] = append(row, x)
}

// all are what waits, the shortest first, each taken out; what is put meanwhile, too.
func (q *queue[T]) all() iter.Seq2[int, T] {
	return func(yield func(int, T) bool) {
		for q.lengths.Len() > 0 {
			long := q.lengths.IntSlice[0]
			row := q.rows[long]
			last := len(row) - 1
			q.rows[long] = row[:last]
			if last == 0 {
				delete(q.rows, long)
				heap.Pop(&q.lengths)
			}
			if !yield(long, row[last]) {
				return
			}
		}
	}
}
