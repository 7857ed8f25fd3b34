package pack

// queue hands out what was put into it, the lightest first, and of the same weight what was put first.
// (The order is whole, so that what comes out hangs on what went in alone.)
type queue[T any] struct {
	heap []entry[T] // none is ahead of the one at half its place
	puts int
}

// entry is a value in a queue.
type entry[T any] struct {
	weight int
	turn   int
	value  T
}

// ahead tells whether an entry comes out ahead of another.
func (e entry[T]) ahead(other entry[T]) bool {
	if e.weight != other.weight {
		return e.weight < other.weight
	}
	return e.turn < other.turn
}

// put puts a value in.
func (q *queue[T]) put(weight int, value T) {
	q.heap = append(q.heap, entry[T]{weight: weight, turn: q.puts, value: value})
	q.puts++
	q.rise(len(q.heap) - 1)
}

// take takes out the entry that is next; false: there is none.
func (q *queue[T]) take() (entry[T], bool) {
	if len(q.heap) == 0 {
		return entry[T]{}, false
	}
	next := q.heap[0]
	last := len(q.heap) - 1
	q.heap[0] = q.heap[last]
	q.heap = q.heap[:last]
	q.sink()
	return next, true
}

// rise lets an entry change places with those above it that it is ahead of.
func (q *queue[T]) rise(at int) {
	for at > 0 {
		above := (at - 1) / 2
		if !q.heap[at].ahead(q.heap[above]) {
			return
		}
		q.heap[at], q.heap[above] = q.heap[above], q.heap[at]
		at = above
	}
}

// sink lets the first entry change places with those below it that are ahead of it.
func (q *queue[T]) sink() {
	at := 0
	for {
		best := at
		for below := 2*at + 1; below <= 2*at+2 && below < len(q.heap); below++ {
			if q.heap[below].ahead(q.heap[best]) {
				best = below
			}
		}
		if best == at {
			return
		}
		q.heap[at], q.heap[best] = q.heap[best], q.heap[at]
		at = best
	}
}
