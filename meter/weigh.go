package meter

import (
	"ramage/api"
	"ramage/nat"
	"ramage/store"
)

// row of numbers: at k, of the levels from one on to the one before k, the product of what they weigh.
type row [api.MaxVars + 1][]uint64

// scales: what the assignments of some levels alone weigh in all.
type scales struct {
	s     *store.Store
	form  api.Form
	hi    []uint64
	zeros [api.MaxVars + 1]row // by the first of the levels: that which has 0 at all of them
	all   [api.MaxVars + 1]row // likewise: all assignments
}

// weigh an edge at the level 0, by as many weights as there are levels.
func weigh(s *store.Store, f api.Form, e api.Edge, lo, hi []uint64) []uint64 {
	w := scales{s: s, form: f, hi: hi}
	for from := range s.Vars() + 1 {
		w.zeros[from][from], w.all[from][from] = nat.Of(1), nat.Of(1)
		for k := from; k < s.Vars(); k++ {
			w.zeros[from][k+1] = times(w.zeros[from][k], nat.Of(lo[k]))
			w.all[from][k+1] = times(w.all[from][k], plus(nat.Of(lo[k]), nat.Of(hi[k])))
		}
	}
	return times(w.above(e, 0), newSums(s, nil, nat.Of(1), w.node).of(e))
}

// node: what the assignments weigh that are in it, of the levels from its Top on, by what those weigh that are in the nodes below.
func (w *scales) node(r api.Record, lo, hi []uint64) []uint64 {
	top, bot := int(r.Top), int(r.Bot)
	lo, hi = times(w.above(r.Lo, bot+1), lo), times(w.above(r.Hi, bot+1), hi)
	if r.Form == api.CBDD {
		// All 0 in the chain leads to Lo, anything else to Hi.
		zeros := w.zeros[top][bot+1]
		return plus(times(zeros, lo), times(less(w.all[top][bot+1], zeros), hi))
	}
	halves := plus(times(w.zeros[bot][bot+1], lo), times(nat.Of(w.hi[bot]), hi))
	return times(w.all[top][bot], halves)
}

// above an edge's node: what the assignments weigh of the levels from l on that it leaves out.
func (w *scales) above(e api.Edge, l int) []uint64 {
	top := w.s.Top(e)
	switch w.form {
	case api.ZDD, api.CZDD:
		return w.zeros[l][top]
	case api.TBDD:
		if e.At == 0 {
			return nil
		}
		return times(w.all[l][e.Tag], w.zeros[e.Tag][top])
	}
	return w.all[l][top]
}

// times: the product. None is too great here: what all assignments of 16 levels weigh is below 2 to 1040.
func times(a, b []uint64) []uint64 {
	product, _ := nat.Mul(a, b)
	return product
}

// plus: the sum; likewise.
func plus(a, b []uint64) []uint64 {
	sum, _ := nat.Add(a, b)
	return sum
}

// less: what is left of a number when one that is no greater is taken away.
func less(a, b []uint64) []uint64 {
	rest, _ := nat.Sub(a, b)
	return rest
}
