package quant

import (
	"ramage/api"
	"ramage/canon"
	"ramage/store"
)

// place of an edge: the level at which it is looked at. That may be one within the chain of its node: then the edge stands for the rest of the chain.
type place struct {
	edge  api.Edge
	level int
}

// unlike: a set whose halves at a level aren't the same, as their numbers.
type unlike struct {
	level, lo, hi int
}

// parts are the sets that an edge comes to, by numbers: 0 is nothing, 1 is everything, and each other set has one of its own, whichever edges mean it. So edges that aren't right are told apart by what they mean.
type parts struct {
	s       *store.Store
	form    api.Form
	places  map[place]int
	numbers map[unlike]int
}

// support of an edge at the level 0.
func support(s *store.Store, f api.Form, e api.Edge) uint16 {
	p := parts{s: s, form: f, places: map[place]int{}, numbers: map[unlike]int{}}
	p.number(place{edge: e})
	var levels uint16
	for set := range p.numbers {
		levels |= 1 << set.level
	}
	return levels
}

// number of the set that an edge means at its place.
func (p *parts) number(at place) int {
	if at.edge == (api.Edge{}) || at.level == p.s.Vars() {
		return int(at.edge.At)
	}
	if told, ok := p.places[at]; ok {
		return told
	}
	lo, hi := p.halves(at)
	set := unlike{level: at.level, lo: p.number(lo), hi: p.number(hi)}
	told := p.numberOf(set)
	p.places[at] = told
	return told
}

// numberOf a set by its halves.
func (p *parts) numberOf(set unlike) int {
	if set.lo == set.hi {
		return set.lo
	}
	told, ok := p.numbers[set]
	if !ok {
		told = len(p.numbers) + 2
		p.numbers[set] = told
	}
	return told
}

// halves of an edge at its place.
func (p *parts) halves(at place) (lo, hi place) {
	e, l := at.edge, at.level
	lo, hi = place{edge: e, level: l + 1}, place{edge: e, level: l + 1}
	r, ok := p.s.Get(e.At)
	switch {
	case !ok || l < int(r.Top):
		// No node is made by View here: it makes the rest of a chain alone.
		lo.edge, hi.edge, _ = canon.View(p.s, p.form, e, l)
	case l == int(r.Bot):
		lo.edge, hi.edge = r.Lo, r.Hi
	case p.form == api.CBDD:
		hi.edge = r.Hi
	}
	return lo, hi
}
