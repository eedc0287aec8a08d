package meter

import (
	"ramage/api"
	"ramage/store"
)

// sums of nodes: what each comes to, by what its two edges come to. They are kept, since many ways may lead to one node.
type sums[T any] struct {
	s            *store.Store
	nothing, one T
	node         func(r api.Record, lo, hi T) T
	kept         map[uint32]T
}

// newSums: none is kept yet.
func newSums[T any](s *store.Store, nothing, one T, node func(r api.Record, lo, hi T) T) *sums[T] {
	return &sums[T]{s: s, nothing: nothing, one: one, node: node, kept: map[uint32]T{}}
}

// of an edge: of the node that it leads to.
func (m *sums[T]) of(e api.Edge) T {
	switch e.At {
	case 0:
		return m.nothing
	case 1:
		return m.one
	}
	if told, ok := m.kept[e.At]; ok {
		return told
	}
	r, _ := m.s.Get(e.At)
	told := m.node(r, m.of(r.Lo), m.of(r.Hi))
	m.kept[e.At] = told
	return told
}
