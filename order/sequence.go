package order

import "warpwright/api"

const wordBits = 64

// mask has a bit for each instruction of a block.
type mask []uint64

func (m mask) add(n int) {
	m[n/wordBits] |= 1 << (n % wordBits)
}

func (m mask) has(n int) bool {
	return m[n/wordBits]>>(n%wordBits)&1 == 1
}

// width is how many words a mask for n instructions has.
func width(n int) int {
	return (n + wordBits - 1) / wordBits
}

// store has room for the masks of all blocks of a code.
type store struct{ free []uint64 }

func storeFor(c api.Code) *store {
	words := 0
	for _, b := range c.B {
		words += len(b.I) * width(len(b.I))
	}
	return &store{make([]uint64, words)}
}

// take returns the masks of a block with n instructions, one behind the other. Their capacity is their length, so that nothing that is done with them reaches those of the next block.
func (s *store) take(n int) []uint64 {
	words := n * width(n)
	taken := s.free[:words:words]
	s.free = s.free[words:]
	return taken
}

// sequence is an order of a block that is being made: an instruction gets its place when all those ahead of it on which it depends have theirs.
type sequence struct {
	list   []api.Inst
	needed []uint64 // for each instruction, the mask of those ahead of it on which it depends
	placed mask
}

// begin returns a sequence of a block, in which no instruction has its place.
func (s *store) begin(c api.Code, b int) *sequence {
	list := c.B[b].I
	q := &sequence{list: list, needed: s.take(len(list)), placed: make(mask, width(len(list)))}
	effects := make([]effect, len(list))
	for n, i := range list {
		effects[n] = effectOf(c, i)
		for m := range n {
			if depend(effects[m], effects[n]) {
				q.needs(n).add(m)
			}
		}
	}
	return q
}

func (q *sequence) needs(n int) mask {
	w := len(q.placed)
	return q.needed[n*w : (n+1)*w]
}

func (q *sequence) isReady(n int) bool {
	if q.placed.has(n) {
		return false
	}
	for k, word := range q.needs(n) {
		if word&^q.placed[k] != 0 {
			return false
		}
	}
	return true
}

// next returns the least load that is ready, or the least instruction that is, if there is no such load.
func (q *sequence) next() int {
	next := none
search:
	for n, i := range q.list {
		switch {
		case !q.isReady(n):
			continue
		case i.Op == api.ILoad:
			next = n
			break search
		case next == none:
			next = n
		}
	}
	return next
}

// greedy gives all instructions their places, each time to the next one.
func (q *sequence) greedy() []int {
	var order []int
	for range q.list {
		n := q.next()
		q.placed.add(n)
		order = append(order, n)
	}
	return order
}

// follows gives instructions their places in this order, and reports whether each one was ready.
func (q *sequence) follows(order []int) bool {
	for _, n := range order {
		if n < 0 || n >= len(q.list) || !q.isReady(n) {
			return false
		}
		q.placed.add(n)
	}
	return true
}
