package quant

import (
	"math/rand"
	"testing"

	"ramage/api"
	"ramage/canon"
	"ramage/store"
)

// askable: drawn calls of edges of all forms that lead, right and cut ones; the same with other levels, in other forms, of other kinds.
func askable(r *rand.Rand, s *store.Store, count int) []call {
	n := s.Vars()
	var list []call
	for range count {
		f := forms[r.Intn(5)]
		edges := leading(s, f, 0)
		c := drawCall(r, n, f, edges[r.Intn(len(edges))], edges[r.Intn(len(edges))])
		list = append(list, c)
		for kind := range kinds {
			other := c
			other.kind = kind
			list = append(list, other)
		}
		other := drawCall(r, n, f, c.b, c.a)
		other.kind = c.kind
		list = append(list, other)
		for _, g := range forms {
			if s.Leads(g, c.a, 0) && s.Leads(g, c.b, 0) {
				other := c
				other.f, other.levels = g, uint16(r.Intn(1<<n))
				list = append(list, other)
			}
		}
	}
	return list
}

func TestKeptAnswers(t *testing.T) { // P20.1: quantifiers of each number of bits, that are asked the same again and again, in turns with other calls: each is told what one without any kept answer is told
	r := rand.New(rand.NewSource(221))
	stores := []*store.Store{everything(t, 2, 0), everything(t, 3, 0), mixed(t, 20000)}
	for _, s := range stores {
		list := askable(r, s, 25)
		var all []*Quant
		for _, bits := range []int{0, 1, 2, 3, 5, 8, 12, 20} {
			all = append(all, fresh(t, s, bits))
		}
		for round := range 6 {
			for range 2 * len(list) {
				c, q := list[r.Intn(len(list))], all[r.Intn(len(all))]
				got := told(t, q, c)
				if want := told(t, fresh(t, s, 0), c); got != want {
					t.Fatalf("%+v: %v, wanted %v", c, got, want)
				}
				means(t, c, s, got, c.meant(s))
				if levels, want := plays(t, q, c.f, c.a), supportOf(meaning(s, c.f, c.a, 0)); levels != want {
					t.Fatalf("Support(%d, %v): %b, wanted %b", c.f, c.a, levels, want)
				}
			}
			if round%2 == 1 {
				all[r.Intn(len(all))].Forget()
			}
		}
	}
}

func TestAnswersOfRightEdges(t *testing.T) { // P20.1: likewise, right edges of more levels, where what is kept is made use of: Forget, again and again, and behind it the same answers
	r := rand.New(rand.NewSource(222))
	s := made(t, 7, api.MaxRoom)
	var all []*Quant
	for _, bits := range []int{0, 4, 9, 16} {
		all = append(all, fresh(t, s, bits))
	}
	for range 8 {
		a, b := drawn(r, 7)
		for _, f := range forms {
			ea, eb := right(t, s, f, a), right(t, s, f, b)
			for range 8 {
				c := drawCall(r, 7, f, ea, eb)
				want := right(t, s, f, c.wants(a, b))
				for _, q := range all {
					for range 3 {
						if got := told(t, q, c); got != want {
							t.Fatalf("%+v of %s, %s: %v, wanted %v", c, a, b, got, want)
						}
						if r.Intn(2) == 0 {
							q.Forget()
							q.Forget()
						}
					}
				}
			}
		}
	}
}

func TestAnswersAreKept(t *testing.T) { // P20.1: what was told is kept, so that it needn't be worked out again, till Forget
	r := rand.New(rand.NewSource(223))
	s := made(t, 8, api.MaxRoom)
	for _, f := range forms {
		q := fresh(t, s, 14)
		a, b := right(t, s, f, draw(r, 7)+draw(r, 7)), right(t, s, f, table(r.Uint64(), 64)+table(r.Uint64(), 64)+table(r.Uint64(), 128))
		for kind := range compose {
			c := call{kind: kind, f: f, a: b, b: a, levels: 0b10100101, level: 7}
			once := told(t, q, c)
			misses := q.answers.Misses()
			if again := told(t, q, c); again != once || q.answers.Misses() != misses {
				t.Errorf("%+v: %v, then %v; %d misses, then %d", c, once, again, misses, q.answers.Misses())
			}
			q.Forget()
			if again := told(t, q, c); again != once || q.answers.Misses() == misses {
				t.Errorf("%+v: %v, behind Forget %v", c, once, again)
			}
		}
	}
}

func TestHash(t *testing.T) { // P20.1: a job's hash hangs on all its parts, and is always the same; few of many jobs share a place
	base := job{form: api.TBDD, op: inAny, level: 3, levels: 0b101000, edges: [2]api.Edge{at(4, 7), at(5, 8)}}
	if base.Hash() != base.Hash() {
		t.Error("not the same")
	}
	others := []job{base, base, base, base, base, base, base, base, base}
	others[0].form, others[1].op, others[2].level, others[3].levels = api.CZDD, inBoth, 4, 0b1000
	for i := range 2 {
		others[4+i].edges[i].At++
		others[6+i].edges[i].Tag++
	}
	others[8].edges[0], others[8].edges[1] = base.edges[1], base.edges[0]
	for i, j := range others {
		if j.Hash() == base.Hash() {
			t.Errorf("%d: the same", i)
		}
	}
	places := map[uint64]bool{}
	for k := range 1 << 12 {
		j := job{form: api.BDD, op: inAny, level: k & 3, levels: 1 << 4, edges: [2]api.Edge{at(0, uint32(2+k>>2&31)), at(0, uint32(2+k>>7))}}
		places[j.Hash()%(1<<12)] = true
	}
	if len(places) < 2000 {
		t.Errorf("%d places", len(places))
	}
}

func TestTwoQuantifiers(t *testing.T) { // P20.1: two quantifiers of one engine, two of two engines of one store, in turns with the engines' own answers; one of another store
	r := rand.New(rand.NewSource(224))
	s, other := made(t, 5, api.MaxRoom), made(t, 5, api.MaxRoom)
	o := engine(t, s, 4)
	all := []*Quant{quantifier(t, o, 3), quantifier(t, o, 11), fresh(t, s, 0), fresh(t, s, 9)}
	apart := fresh(t, other, 6)
	for range 80 {
		a, b := drawn(r, 5)
		f := forms[r.Intn(5)]
		ea, eb := right(t, s, f, a), right(t, s, f, b)
		c := drawCall(r, 5, f, ea, eb)
		want, size := tellsRight(t, all[r.Intn(4)], c, a, b), s.Len()
		for range 4 {
			q := all[r.Intn(4)]
			if got := told(t, q, c); got != want || s.Len() != size {
				t.Fatalf("%+v: %v, then %v", c, want, got)
			}
			switch r.Intn(3) {
			case 0:
				q.Forget()
			case 1:
				q.o.Forget()
			}
			if both, err := o.Apply(f, 8, ea, eb); err != api.OK || meaning(s, f, both, 0) != byTwo(8, a, b) {
				t.Fatalf("Apply: %v, %v", both, err)
			}
			size = s.Len()
		}
		beside, by := drawn(r, 5)
		c.a, c.b = right(t, other, f, beside), right(t, other, f, by)
		tellsRight(t, apart, c, beside, by)
	}
}

func TestSweepAndForget(t *testing.T) { // P20.1: behind a Sweep, Forget, and the engine's, what is told is of the nodes that are there now, even if they have the ids of others
	r := rand.New(rand.NewSource(225))
	for n := 1; n < 6; n++ {
		s := made(t, n, api.MaxRoom)
		all := []*Quant{fresh(t, s, 0), fresh(t, s, 4), fresh(t, s, 16)}
		type pair struct {
			a, b   api.Edge
			ta, tb string
		}
		kept := map[api.Form]pair{}
		for range 50 {
			f := forms[r.Intn(5)]
			a, b := drawn(r, n)
			p := pair{right(t, s, f, a), right(t, s, f, b), a, b}
			kept[f] = p
			for _, q := range all {
				for range 6 {
					tellsRight(t, q, drawCall(r, n, f, p.a, p.b), a, b)
				}
			}
			var stay []api.Edge
			for _, g := range forms {
				if r.Intn(2) == 0 {
					stay = append(stay, kept[g].a, kept[g].b)
				} else {
					delete(kept, g)
				}
			}
			sweep(s, stay, all)
			for _, g := range forms {
				if p, ok := kept[g]; ok {
					tellsRight(t, all[r.Intn(3)], drawCall(r, n, g, p.a, p.b), p.ta, p.tb)
				}
			}
			sweep(s, stay, all)
		}
	}
}

// sweep a store, and forget what was told.
func sweep(s *store.Store, stay []api.Edge, all []*Quant) {
	s.Sweep(stay)
	for _, q := range all {
		q.Forget()
		q.o.Forget()
	}
}

func TestIdsThatComeAgain(t *testing.T) { // P20.1: the same calls of the same edges, before and behind a Sweep and Forget, when their nodes are others
	s := made(t, 3, 60)
	q := fresh(t, s, 20)
	for _, f := range forms {
		calls := func(a, b api.Edge) {
			t.Helper()
			for _, c := range callsOf(3, f, a, b) {
				if s.Leads(f, c.a, 0) && s.Leads(f, c.b, 0) {
					tells(t, q, c)
				}
				s.Sweep([]api.Edge{a, b})
				q.Forget()
				q.o.Forget()
			}
		}
		a, b := right(t, s, f, "00011111"), right(t, s, f, "00110011")
		calls(a, b)
		sweep(s, nil, []*Quant{q})
		// In another order, so that the ids go to other nodes.
		d, c := right(t, s, f, "01010101"), right(t, s, f, "00110110")
		calls(d, c)
		sweep(s, []api.Edge{d, c}, []*Quant{q})
		if s.Leads(f, a, 0) && s.Leads(f, b, 0) {
			calls(a, b)
		}
		sweep(s, nil, []*Quant{q})
	}
}

func TestForgetAlone(t *testing.T) { // P20.1: the quantifier's Forget drops its own answers, so that none of nodes that went is told, whatever calls the same ids stood for
	for _, f := range forms {
		s := made(t, 3, 60)
		q := fresh(t, s, 20)
		first := right(t, s, f, "00000001")
		c := call{kind: exists, f: f, a: first, levels: 0b100}
		tells(t, q, c)
		sweep(s, nil, []*Quant{q})
		second := right(t, s, f, "01100001")
		for _, e := range leading(s, f, 0) {
			c.a = e
			tells(t, q, c)
		}
		if meaning(s, f, second, 0) != "01100001" {
			t.Fatal("another set")
		}
	}
}

func TestStale(t *testing.T) { // R1: behind a Sweep without Forget nothing is promised but that calls end, and don't panic; behind Forget all is as ever
	r := rand.New(rand.NewSource(226))
	for range 40 {
		s := made(t, 5, 120)
		q := fresh(t, s, 8)
		for range 60 {
			f := forms[r.Intn(5)]
			list := leading(s, f, 0)
			c := drawCall(r, 5, f, list[r.Intn(len(list))], list[r.Intn(len(list))])
			if e, err := c.ask(q); err != api.OK && e != nothing {
				t.Fatalf("%v, %v", e, err)
			}
			if levels, err := q.Support(f, c.a); err != api.OK || levels != supportOf(meaning(s, f, c.a, 0)) {
				t.Fatalf("Support: %b, %v", levels, err)
			}
			if r.Intn(8) == 0 {
				s.Sweep([]api.Edge{c.a})
			}
			canon.Cube(s, f, 0, 1<<r.Intn(5), 0)
		}
		sweep(s, nil, []*Quant{q})
		for _, f := range forms {
			e, err := canon.Cube(s, f, 0, 0b11000, 0)
			if err != api.OK {
				t.Fatal(err)
			}
			c := call{kind: exists, f: f, a: e, levels: 0b01000}
			means(t, c, s, told(t, q, c), c.meant(s))
			sweep(s, nil, []*Quant{q})
		}
	}
}
