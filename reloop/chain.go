package reloop

// chain is a linked list of what encloses something, the innermost first. The empty one is nil.
type chain[T any] struct {
	inner T
	outer *chain[T]
}

// with returns the chain of what is enclosed by this, too.
func (c *chain[T]) with(inner T) *chain[T] {
	return &chain[T]{inner, c}
}
