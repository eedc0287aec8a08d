package quant

import (
	"math/rand"
	"testing"

	"ramage/api"
	"ramage/canon"
	"ramage/node"
	"ramage/store"
)

// need: room for so many nodes is always enough.
func need(n int) int { return (2*n + 8) << n }

// withMoreRoom: a call with more and more room from none on: Full only where there isn't room enough, and not once there was; what is told is true, and beside Full the nodes stay, and later answers are true.
func withMoreRoom(t *testing.T, s *store.Store, c call, bits int) {
	t.Helper()
	want, most := c.meant(s), need(s.Vars())
	isRight := canon.Right(s, c.f, c.a, 0) && canon.Right(s, c.f, c.b, 0)
	fits := false
	for more := 0; more <= most; more++ {
		if fits && more > 30 {
			more = most
		}
		to, c := alone(t, s, c, more)
		q, old := fresh(t, to, bits), records(to)
		e, err := c.ask(q)
		stillThere(t, to, old)
		if err == api.OK {
			fits = true
			means(t, c, to, e, want)
			if isRight && !canon.Right(to, c.f, e, 0) {
				t.Fatalf("%+v: %v isn't right", c, e)
			}
			continue
		}
		none(t, c, e, err, api.Full)
		if fits || more >= most {
			t.Fatalf("%+v: Full with room for %d of %d", c, more, most)
		}
		afterFull(t, q, c)
	}
}

// afterFull: later answers of a quantifier that told Full, and of its engine, and with room again.
func afterFull(t *testing.T, q *Quant, c call) {
	t.Helper()
	later(t, q, c)
	s := q.store()
	sweep(s, []api.Edge{c.a, c.b}, []*Quant{q})
	later(t, q, c)
}

// later answers: true, or Full.
func later(t *testing.T, q *Quant, c call) {
	t.Helper()
	s := q.store()
	n, old := s.Vars(), records(s)
	for _, levels := range []uint16{c.levels, 0, 1<<n - 1, 1 << (n - 1)} {
		for c.kind = range kinds {
			c.levels = levels
			e, err := c.ask(q)
			if err == api.OK {
				means(t, c, s, e, c.meant(s))
				continue
			}
			none(t, c, e, err, api.Full)
		}
	}
	if e, err := q.o.Apply(c.f, 8, c.a, c.b); err == api.OK {
		means(t, c, s, e, byTwo(8, meaning(s, c.f, c.a, 0), meaning(s, c.f, c.b, 0)))
	} else {
		none(t, c, e, err, api.Full)
	}
	stillThere(t, s, old)
}

func TestFull(t *testing.T) { // P20.2, P20.3: Full only where there isn't room enough: drawn right edges of up to four levels, with kept answers and without
	r := rand.New(rand.NewSource(227))
	for n := 1; n < 6; n++ {
		s := made(t, n, api.MaxRoom)
		for range 12 {
			a, b := drawn(r, n)
			for _, f := range forms {
				withMoreRoom(t, s, drawCall(r, n, f, right(t, s, f, a), right(t, s, f, b)), r.Intn(9)*r.Intn(2))
			}
		}
	}
}

func TestFullOfCutEdges(t *testing.T) { // P20.2, P20.3: likewise, edges that aren't right
	r := rand.New(rand.NewSource(228))
	for _, s := range []*store.Store{everything(t, 2, 0), everything(t, 3, 0), mixed(t, 0)} {
		for _, f := range forms {
			list := leading(s, f, 0)
			for range 30 {
				c := drawCall(r, s.Vars(), f, list[r.Intn(len(list))], list[r.Intn(len(list))])
				withMoreRoom(t, s, c, r.Intn(9)*r.Intn(2))
			}
		}
	}
}

func TestFullOfManyLevels(t *testing.T) { // P20.2, P20.3: likewise, sets of few nodes in which chains and tags play a part, and drawn ones, of six and of nine levels: just so much room, and more, or less
	r := rand.New(rand.NewSource(229))
	for _, n := range []int{6, 9} {
		s := made(t, n, api.MaxRoom)
		list := append(long(n), draw(r, n), draw(r, n-1)+draw(r, n-1))
		for _, f := range forms {
			for i, a := range list {
				for range 8 {
					b := list[r.Intn(len(list))]
					c := drawCall(r, n, f, right(t, s, f, a), right(t, s, f, b))
					for _, more := range []int{need(n), need(n) + 1, 40, 7, 0} {
						to, c := alone(t, s, c, more)
						e, err := c.ask(fresh(t, to, i*r.Intn(2)))
						if err == api.OK {
							means(t, c, to, e, c.meant(to))
							continue
						}
						none(t, c, e, err, api.Full)
						if more >= need(n) {
							t.Fatalf("%+v of %d and %d: Full with room for %d", c, i, n, more)
						}
					}
				}
			}
		}
	}
}

func TestFullBesideOtherNodes(t *testing.T) { // P20.2, P20.3: likewise, in a store that other answers have filled: what counts is the room beside the nodes there are
	r := rand.New(rand.NewSource(230))
	for n := 2; n < 6; n++ {
		for range 6 {
			for _, f := range forms {
				a, b := drawn(r, n)
				s := made(t, n, 2*need(n))
				q := fresh(t, s, r.Intn(9))
				ea, eb := right(t, s, f, a), right(t, s, f, b)
				for range 40 {
					if s.Room()-s.Len() < need(n) {
						break
					}
					tells(t, q, drawCall(r, n, f, ea, eb))
					a = draw(r, n)
					ea = right(t, s, f, a)
				}
			}
		}
	}
}

func TestFewNodes(t *testing.T) { // P20.2, P20.3: a call makes no more nodes than room enough is for; done again none
	r := rand.New(rand.NewSource(231))
	for n := 1; n < 9; n++ {
		s := made(t, n, api.MaxRoom)
		for range 10 {
			a, b := drawn(r, n)
			for _, f := range forms {
				to, c := alone(t, s, drawCall(r, n, f, right(t, s, f, a), right(t, s, f, b)), need(n))
				before := to.Len()
				e := told(t, fresh(t, to, 0), c)
				if to.Len()-before > need(n) {
					t.Fatalf("%d nodes, room enough is %d", to.Len()-before, need(n))
				}
				before = to.Len()
				if again := told(t, fresh(t, to, 3), c); again != e || to.Len() != before {
					t.Fatalf("%d nodes more, done again", to.Len()-before)
				}
			}
		}
	}
}

func TestNoRoomNeeded(t *testing.T) { // P20.2 to P20.4: in a store without room: what needs no node is told
	for n := range api.MaxVars + 1 {
		s := made(t, n, 0)
		q := fresh(t, s, 2)
		for _, f := range forms {
			for _, levels := range []uint16{0, uint16(1<<n - 1)} {
				for kind := range andExists + 1 {
					c := call{kind: kind, f: f, b: node.One(f, n), levels: levels}
					if e := told(t, q, c); e != nothing {
						t.Fatalf("%+v: %v", c, e)
					}
				}
			}
			if n > 0 {
				for _, kind := range []int{with, compose} {
					c := call{kind: kind, f: f, b: node.One(f, n), level: n - 1, one: true}
					if e := told(t, q, c); e != nothing {
						t.Fatalf("%+v: %v", c, e)
					}
				}
			}
			if levels := plays(t, q, f, node.One(f, n)); levels != supportOf(meaning(s, f, node.One(f, n), 0)) {
				t.Fatalf("Support: %b", levels)
			}
		}
		if s.Len() != 0 {
			t.Fatalf("%d nodes", s.Len())
		}
	}
}
