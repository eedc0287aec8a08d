package quant

import (
	"math"
	"math/rand"
	"strings"
	"testing"

	"ramage/api"
	"ramage/apply"
	"ramage/canon"
	"ramage/node"
	"ramage/store"
)

func TestExample(t *testing.T) { // P20.2: the chapter's example, and as each other form
	s := made(t, 2, 60)
	q := fresh(t, s, 4)
	for _, f := range forms {
		both, err := canon.Cube(s, f, 0, 0b11, 0)
		if err != api.OK {
			t.Fatal(err)
		}
		last, _ := canon.Cube(s, f, 0, 0b10, 0)
		if e, err := q.Exists(f, both, 0b01); e != last || err != api.OK {
			t.Errorf("as %d: %v, %v, wanted %v", f, e, err, last)
		}
	}
}

func TestByHand(t *testing.T) { // P20.2 to P20.4: each call, of one set of three levels, by hand: the level 0 is 1 and the level 1 is, or the level 0 is 0 and the level 2 is 1
	s := made(t, 3, 400)
	q := fresh(t, s, 8)
	const set = "01010011"
	for _, f := range forms {
		e, g := right(t, s, f, set), right(t, s, f, "00110011")
		for _, c := range []struct {
			c    call
			want string
		}{
			{call{kind: exists, levels: 0b000}, set},
			{call{kind: exists, levels: 0b001}, "01110111"},
			{call{kind: exists, levels: 0b010}, "01011111"},
			{call{kind: exists, levels: 0b100}, "11110011"},
			{call{kind: exists, levels: 0b111}, "11111111"},
			{call{kind: forall, levels: 0b000}, set},
			{call{kind: forall, levels: 0b001}, "00010001"},
			{call{kind: forall, levels: 0b010}, "01010000"},
			{call{kind: forall, levels: 0b100}, "00000011"},
			{call{kind: forall, levels: 0b011}, "00000000"},
			{call{kind: forall, levels: 0b110}, "00000000"},
			{call{kind: andExists, levels: 0b000}, "00010011"},
			{call{kind: andExists, levels: 0b001}, "00110011"},
			{call{kind: andExists, levels: 0b110}, "11111111"},
			{call{kind: with, level: 0}, "01010101"},
			{call{kind: with, level: 0, one: true}, "00110011"},
			{call{kind: with, level: 1}, "01010000"},
			{call{kind: with, level: 1, one: true}, "01011111"},
			{call{kind: with, level: 2}, "00000011"},
			{call{kind: with, level: 2, one: true}, "11110011"},
			{call{kind: compose, level: 0}, "01110111"},
			{call{kind: compose, level: 1}, set},
			{call{kind: compose, level: 2}, "00110011"},
		} {
			c.c.f, c.c.a, c.c.b = f, e, g
			if got := told(t, q, c.c); got != right(t, s, f, c.want) {
				t.Errorf("%+v: %s, wanted %s", c.c, meaning(s, f, got, 0), c.want)
			}
		}
		if levels := plays(t, q, f, e); levels != 0b111 {
			t.Errorf("Support as %d: %03b", f, levels)
		}
		if levels := plays(t, q, f, g); levels != 0b010 {
			t.Errorf("Support as %d: %03b", f, levels)
		}
	}
}

func TestNew(t *testing.T) { // P20.1: bits that can't be, a nil engine; R2: Nil ahead of Arg
	wrong := []int{-1, -2, 21, 22, 64, 1 << 20, 1 << 32, math.MaxInt, math.MinInt}
	for _, s := range []*store.Store{made(t, 3, 9), made(t, 0, 0), {}} {
		o := engine(t, s, 3)
		for bits := range 21 {
			q, err := New(o, bits)
			if err != api.OK || q == nil {
				t.Fatalf("New(%d): %v", bits, err)
			}
			if e, err := q.Exists(api.BDD, at(0, 1), 0); e != at(0, 1) || err != api.OK {
				t.Errorf("bits %d: %v, %v", bits, e, err)
			}
		}
		for _, bits := range wrong {
			if q, err := New(o, bits); err != api.Arg || q != nil {
				t.Errorf("New(%d): %v, %v", bits, q, err)
			}
		}
	}
	for _, bits := range append(wrong, 0, 1, 20) {
		if q, err := New(nil, bits); err != api.Nil || q != nil {
			t.Errorf("New(nil, %d): %v, %v", bits, q, err)
		}
	}
}

func TestNilQuantifier(t *testing.T) { // P20.1 to P20.4: Nil ahead of whatever else is wrong, nothing is done; of one that New didn't make, or of an engine that wasn't made, likewise
	unmade, err := New(&apply.Ops{}, 3)
	if err != api.OK {
		t.Fatal(err)
	}
	for _, q := range []*Quant{nil, {}, unmade} {
		q.Forget()
		for _, f := range []api.Form{0, 1, 2, 3, 4, 5, 6, 255} {
			for _, level := range []int{-1, 0, 1, 15, 16, math.MaxInt, math.MinInt} {
				for _, e := range []api.Edge{nothing, at(0, 1), at(0, 2), at(255, math.MaxUint32)} {
					noCall(t, q, call{f: f, a: e, b: nothing, level: level}, api.Nil)
					noCall(t, q, call{f: f, a: nothing, b: e, level: level, levels: math.MaxUint16}, api.Nil)
				}
			}
		}
		q.Forget()
	}
}

func TestEach(t *testing.T) { // P20.2 to P20.4: of each two sets of up to two levels, each call, with each choice of levels, at each level, as each form; what is told is right
	for n := range 3 {
		s := made(t, n, 400)
		q := fresh(t, s, 7)
		for _, f := range forms {
			for x := range uint64(1) << (1 << n) {
				for y := range uint64(1) << (1 << n) {
					a, b := table(x, 1<<n), table(y, 1<<n)
					for _, c := range callsOf(n, f, right(t, s, f, a), right(t, s, f, b)) {
						tellsRight(t, q, c, a, b)
					}
				}
			}
		}
	}
}

func TestEachOfThree(t *testing.T) { // P20.2 to P20.4: likewise each set of three levels, with a drawn one as the second
	r := rand.New(rand.NewSource(201))
	s := made(t, 3, 5000)
	q := fresh(t, s, 9)
	for _, f := range forms {
		for x := range uint64(256) {
			a, b := table(x, 8), table(uint64(r.Intn(256)), 8)
			e := right(t, s, f, a)
			for _, c := range callsOf(3, f, e, right(t, s, f, b)) {
				tellsRight(t, q, c, a, b)
			}
			if levels := plays(t, q, f, e); levels != supportOf(a) {
				t.Fatalf("Support of %s as %d: %03b", a, f, levels)
			}
		}
	}
}

func TestDrawn(t *testing.T) { // P20.2 to P20.4: drawn sets of up to nine levels, all forms in one store: what is told is right; nodes that there were stay, and what the edges mean
	r := rand.New(rand.NewSource(202))
	for n := 1; n < 10; n++ {
		s := made(t, n, api.MaxRoom)
		q := fresh(t, s, n)
		for range 5 {
			a, b := drawn(r, n)
			for _, f := range forms {
				ea, eb := right(t, s, f, a), right(t, s, f, b)
				for range 12 {
					old := records(s)
					tellsRight(t, q, drawCall(r, n, f, ea, eb), a, b)
					stillThere(t, s, old)
				}
				if meaning(s, f, ea, 0) != a || meaning(s, f, eb, 0) != b {
					t.Fatalf("as %d: an edge means something else", f)
				}
			}
		}
	}
}

func TestEachChoiceOfLevels(t *testing.T) { // P20.2: each choice of six levels, no levels at all, and all of them
	r := rand.New(rand.NewSource(203))
	s := made(t, 6, api.MaxRoom)
	q := fresh(t, s, 10)
	for range 3 {
		a, b := drawn(r, 6)
		for _, f := range forms {
			ea, eb := right(t, s, f, a), right(t, s, f, b)
			for _, c := range callsOf(6, f, ea, eb) {
				tellsRight(t, q, c, a, b)
			}
			if e := told(t, q, call{kind: exists, f: f, a: ea}); e != ea {
				t.Fatalf("Exists of no levels as %d: %v of %v", f, e, ea)
			}
			if e := told(t, q, call{kind: forall, f: f, a: ea}); e != ea {
				t.Fatalf("Forall of no levels as %d: %v of %v", f, e, ea)
			}
		}
	}
}

func TestComposeBy(t *testing.T) { // P20.3: by nothing, by everything, by the edge itself, by an edge that has the level in its Support, by the level itself, and by another level
	r := rand.New(rand.NewSource(204))
	for n := 1; n < 7; n++ {
		s := made(t, n, api.MaxRoom)
		q := fresh(t, s, 6)
		for range 4 {
			a, b := drawn(r, n)
			for _, f := range forms {
				e := right(t, s, f, a)
				for level := range n {
					other := r.Intn(n)
					for _, by := range []string{zeros(1 << n), ones(1 << n), a, byTwo(6, b, levelAlone(n, level)), levelAlone(n, level), levelAlone(n, other), b} {
						tellsRight(t, q, call{kind: compose, f: f, a: e, b: right(t, s, f, by), level: level}, a, by)
					}
					c := call{kind: compose, f: f, a: e, level: level}
					if got := told(t, q, c); got != told(t, q, call{kind: with, f: f, a: e, level: level}) {
						t.Fatalf("by nothing: %v", got)
					}
					c.b = right(t, s, f, ones(1<<n))
					if got := told(t, q, c); got != told(t, q, call{kind: with, f: f, a: e, level: level, one: true}) {
						t.Fatalf("by everything: %v", got)
					}
					c.b = right(t, s, f, levelAlone(n, level))
					if got := told(t, q, c); got != e {
						t.Fatalf("by the level itself: %v, wanted %v", got, e)
					}
				}
			}
		}
	}
}

// levelAlone: the set in which a level is 1.
func levelAlone(n, level int) string {
	part := 1 << (n - 1 - level)
	return strings.Repeat(zeros(part)+ones(part), 1<<level)
}

func TestOneEdgeTwice(t *testing.T) { // P20.2, P20.3: one edge as the first and the second, right or not
	r := rand.New(rand.NewSource(205))
	for n := 1; n < 4; n++ {
		s := everything(t, n, 0)
		q := fresh(t, s, 5)
		for _, f := range forms {
			list := leading(s, f, 0)
			for range 60 {
				e := list[r.Intn(len(list))]
				tells(t, q, drawCall(r, n, f, e, e))
			}
		}
	}
}

func TestEnds(t *testing.T) { // P20.2 to P20.4: edges to nothing and to one, with each tag; an edge to one doesn't mean the same in each form
	for n := 1; n < 5; n++ {
		s := made(t, n, 2000)
		q := fresh(t, s, 4)
		for _, f := range forms {
			list := []api.Edge{nothing}
			for tag := range n + 1 {
				if s.Leads(f, at(tag, 1), 0) {
					list = append(list, at(tag, 1))
				}
			}
			for _, a := range list {
				if levels, want := plays(t, q, f, a), supportOf(meaning(s, f, a, 0)); levels != want {
					t.Fatalf("Support(%d, %v) of %d: %b, wanted %b", f, a, n, levels, want)
				}
				for _, b := range list {
					for _, c := range callsOf(n, f, a, b) {
						tellsRight(t, q, c, meaning(s, f, a, 0), meaning(s, f, b, 0))
					}
				}
			}
		}
	}
}

func TestEachEdge(t *testing.T) { // P20.2 to P20.4: stores in which all nodes are that may be of up to two variables: each two edges that lead, right or not, each call; no node is lacking
	for n := range 3 {
		s := everything(t, n, 0)
		q := fresh(t, s, 9)
		old := records(s)
		for _, f := range forms {
			for _, a := range leading(s, f, 0) {
				for _, b := range leading(s, f, 0) {
					for _, c := range callsOf(n, f, a, b) {
						means(t, c, s, told(t, q, c), c.meant(s))
					}
				}
				if levels, want := plays(t, q, f, a), supportOf(meaning(s, f, a, 0)); levels != want {
					t.Fatalf("Support(%d, %v): %02b, wanted %02b", f, a, levels, want)
				}
			}
		}
		sameNodes(t, s, old)
	}
}

func TestAnyEdges(t *testing.T) { // P20.2 to P20.4: likewise of three variables: drawn calls, Support of each edge; and what is told of right edges is right beside cut ones
	r := rand.New(rand.NewSource(206))
	s := everything(t, 3, 0)
	q := fresh(t, s, 11)
	for _, f := range forms {
		list := leading(s, f, 0)
		for range 2500 {
			c := drawCall(r, 3, f, list[r.Intn(len(list))], list[r.Intn(len(list))])
			e := told(t, q, c)
			means(t, c, s, e, c.meant(s))
			if canon.Right(s, f, c.a, 0) && canon.Right(s, f, c.b, 0) && !canon.Right(s, f, e, 0) {
				t.Fatalf("%+v: %v isn't right", c, e)
			}
		}
		for _, e := range list {
			if levels, want := plays(t, q, f, e), supportOf(meaning(s, f, e, 0)); levels != want {
				t.Fatalf("Support(%d, %v): %03b, wanted %03b", f, e, levels, want)
			}
		}
	}
}

func TestCutEdges(t *testing.T) { // P20.2 to P20.4: edges that aren't right, of four levels and of seven, and what was told of them again, in stores in which nodes must be made
	r := rand.New(rand.NewSource(207))
	s := mixed(t, 5000)
	q := fresh(t, s, 6)
	for range 1200 {
		f := forms[r.Intn(5)]
		list := leading(s, f, 0)
		c := drawCall(r, 4, f, list[r.Intn(len(list))], list[r.Intn(len(list))])
		a, b := meaning(s, f, c.a, 0), meaning(s, f, c.b, 0)
		tells(t, q, c)
		if meaning(s, f, c.a, 0) != a || meaning(s, f, c.b, 0) != b {
			t.Fatalf("%+v: an edge means something else", c)
		}
	}
	for _, f := range forms {
		wrong := 0
		for range 40 {
			s := made(t, 7, api.MaxRoom)
			q := fresh(t, s, 5)
			a, b := cut(t, r, s, f, 25), cut(t, r, s, f, 25)
			if !canon.Right(s, f, a, 0) {
				wrong++
			}
			for range 6 {
				tells(t, q, drawCall(r, 7, f, a, b))
			}
			size := s.Len()
			if levels, want := plays(t, q, f, a), supportOf(meaning(s, f, a, 0)); levels != want || s.Len() != size {
				t.Fatalf("Support(%d, %v): %b, wanted %b", f, a, levels, want)
			}
		}
		if f > api.ZDD && wrong < 5 {
			t.Errorf("as %d: few edges were cut: %d", f, wrong)
		}
	}
}

func TestSupport(t *testing.T) { // P20.4: the levels at which With of 1 and of 0 don't mean the same: drawn sets of up to nine levels, long chains; no node is made, with room and without
	r := rand.New(rand.NewSource(208))
	for n := range 10 {
		list := []string{zeros(1 << n), ones(1 << n)}
		for range 12 {
			a, b := drawn(r, n)
			list = append(list, a, b)
		}
		if n > 2 {
			list = append(list, long(n)...)
		}
		s := made(t, n, api.MaxRoom)
		for _, f := range forms {
			for _, a := range list {
				e := right(t, s, f, a)
				to, c := alone(t, s, call{f: f, a: e}, r.Intn(2))
				old := records(to)
				levels := plays(t, fresh(t, to, r.Intn(9)), f, c.a)
				sameNodes(t, to, old)
				if levels != supportOf(a) {
					t.Fatalf("Support of %s as %d: %b, wanted %b", a, f, levels, supportOf(a))
				}
				q := fresh(t, s, 5)
				for k := range n {
					nought := told(t, q, call{kind: with, f: f, a: e, level: k})
					one := told(t, q, call{kind: with, f: f, a: e, level: k, one: true})
					if (levels>>k&1 == 1) != (nought != one) {
						t.Fatalf("Support of %s as %d: %b; With of %d: %v, %v", a, f, levels, k, nought, one)
					}
				}
			}
		}
	}
}

func TestNoVariables(t *testing.T) { // P20.2 to P20.4: a store for no variable, one that New didn't make: nothing and one stay what they are, each level is Var
	for _, s := range []*store.Store{made(t, 0, 3), made(t, 0, 0), {}} {
		q := fresh(t, s, 1)
		for _, f := range forms {
			for k := range uint32(4) {
				a, b := at(0, k>>1), at(0, k&1)
				if e := told(t, q, call{kind: exists, f: f, a: a}); e != a {
					t.Errorf("Exists of %v: %v", a, e)
				}
				if e := told(t, q, call{kind: forall, f: f, a: a}); e != a {
					t.Errorf("Forall of %v: %v", a, e)
				}
				if e := told(t, q, call{kind: andExists, f: f, a: a, b: b}); e != at(0, a.At&b.At) {
					t.Errorf("AndExists of %v, %v: %v", a, b, e)
				}
				if levels := plays(t, q, f, a); levels != 0 {
					t.Errorf("Support of %v: %d", a, levels)
				}
				noLevelOf(t, q, f, a, b)
			}
		}
		if s.Len() != 0 {
			t.Errorf("%d nodes", s.Len())
		}
	}
}

// noLevelOf: each call of edges that lead with what is no level, or with bits for none: Var, and no node.
func noLevelOf(t *testing.T, q *Quant, f api.Form, a, b api.Edge) {
	t.Helper()
	s := q.store()
	size := s.Len()
	for _, level := range noLevels(s.Vars()) {
		for _, c := range []call{{kind: with, level: level}, {kind: with, level: level, one: true}, {kind: compose, level: level}} {
			c.f, c.a, c.b = f, a, b
			e, err := c.ask(q)
			none(t, c, e, err, api.Var)
		}
	}
	for _, levels := range noBits(s.Vars()) {
		for _, kind := range []int{exists, forall, andExists} {
			c := call{kind: kind, f: f, a: a, b: b, levels: levels}
			e, err := c.ask(q)
			none(t, c, e, err, api.Var)
		}
	}
	if s.Len() != size {
		t.Fatalf("%d nodes, were %d", s.Len(), size)
	}
}

func TestNoLevels(t *testing.T) { // P20.2, P20.3: Var of a bit for the level n and for each one behind it, and of a level that isn't from 0 to n - 1, with room and without; those at the ends are ones
	for n := range api.MaxVars + 1 {
		for _, room := range []int{0, 300} {
			s := made(t, n, room)
			q := fresh(t, s, 2)
			for _, f := range forms {
				one := node.One(f, n)
				for _, e := range []api.Edge{nothing, one} {
					noLevelOf(t, q, f, e, nothing)
					noLevelOf(t, q, f, e, one)
				}
			}
			if s.Len() != 0 {
				t.Errorf("%d nodes", s.Len())
			}
			if n == 0 || room == 0 {
				continue
			}
			for _, f := range forms {
				e, err := canon.Cube(s, f, 0, 1|1<<(n-1), 0)
				if err != api.OK {
					t.Fatal(err)
				}
				all, _ := canon.Cube(s, f, 0, 0, 0)
				told(t, q, call{kind: with, f: f, a: e, level: 0})
				told(t, q, call{kind: compose, f: f, a: e, b: e, level: n - 1})
				if got := told(t, q, call{kind: exists, f: f, a: e, levels: uint16(1<<n - 1)}); got != all {
					t.Errorf("n %d: Exists of all levels: %v", n, got)
				}
				if got := told(t, q, call{kind: forall, f: f, a: e, levels: 1 << (n - 1)}); got != nothing {
					t.Errorf("n %d: Forall of the last level: %v", n, got)
				}
			}
		}
	}
}

func TestNoForms(t *testing.T) { // P20.2 to P20.4: Shape of what is no form, whatever else is wrong, with room and without
	for _, s := range []*store.Store{made(t, 3, 50), made(t, 0, 0), made(t, 16, 3), mixed(t, 0)} {
		q := fresh(t, s, 4)
		for _, f := range noForms() {
			for _, level := range []int{-1, 0, 2, 3, 16, math.MaxInt, math.MinInt} {
				for _, e := range []api.Edge{nothing, at(0, 1), at(0, 2), at(255, 9)} {
					noCall(t, q, call{f: f, a: e, b: nothing, level: level}, api.Shape)
					noCall(t, q, call{f: f, a: nothing, b: e, level: level, levels: 1 << 15}, api.Shape)
				}
			}
		}
	}
}

func TestNoLead(t *testing.T) { // P20.2 to P20.4: Arg of each edge, to any id, with any tag, that doesn't lead, as the first and as the second, whatever level is told; no node is made
	for _, more := range []int{0, 30} {
		s := mixed(t, more)
		q := fresh(t, s, 5)
		old := records(s)
		for _, id := range []uint32{0, 1, 2, 3, 4, 5, 6, 7, 8, 10, 11, 13, 14, 15, 16, 17, 18, 20, 21, 22, 23, 1 << 20, 1<<20 + 2, 1 << 31, math.MaxUint32} {
			for _, tag := range []int{0, 1, 2, 3, 4, 5, 16, 17, 255} {
				for _, f := range forms {
					if !s.Leads(f, at(tag, id), 0) {
						noLead(t, q, f, at(tag, id))
					}
				}
			}
		}
		sameNodes(t, s, old)
	}
}

// noLead: each of the calls, of an edge that doesn't lead, at each place, with levels that are and that aren't.
func noLead(t *testing.T, q *Quant, f api.Form, e api.Edge) {
	t.Helper()
	one := node.One(f, q.store().Vars())
	for _, level := range []int{0, 3, 4, -1, math.MaxInt, math.MinInt} {
		for _, levels := range []uint16{0, 1, 1 << 4, 1<<16 - 1} {
			c := call{f: f, a: e, b: one, level: level, levels: levels}
			noCall(t, q, c, api.Arg)
			c.b = e
			noCall(t, q, c, api.Arg)
			for _, c.a = range []api.Edge{nothing, one} {
				for _, c.kind = range []int{andExists, compose} {
					told, err := c.ask(q)
					none(t, c, told, err, api.Arg)
				}
			}
		}
	}
}

func TestNoLeadByHand(t *testing.T) { // P20.2 to P20.4: edges that don't lead at the level 0, one by one
	s := made(t, 3, 40)
	q := fresh(t, s, 5)
	low := found(t, s, api.Record{Form: api.BDD, Top: 1, Bot: 1, Hi: at(0, 1)})
	tag := found(t, s, api.Record{Form: api.TBDD, Top: 1, Bot: 1, Hi: at(3, 1)})
	old := records(s)
	for _, c := range []struct {
		f api.Form
		e api.Edge
	}{
		{api.BDD, at(0, 4)}, // no node's
		{api.TBDD, at(0, 4)},
		{api.ZDD, at(0, math.MaxUint32)},
		{api.ZDD, at(0, low)}, // of another form
		{api.CBDD, at(0, low)},
		{api.TBDD, at(0, low)},
		{api.BDD, at(0, tag)},
		{api.BDD, at(1, low)}, // not plain
		{api.BDD, at(1, 1)},
		{api.CZDD, at(3, 1)},
		{api.ZDD, at(1, 0)},
		{api.TBDD, at(1, 0)},
		{api.TBDD, at(4, 1)},
		{api.TBDD, at(255, 1)},
		{api.TBDD, at(2, tag)}, // a Tag above its node's Top
		{api.TBDD, at(3, tag)},
	} {
		noLead(t, q, c.f, c.e)
	}
	sameNodes(t, s, old)
	for _, k := range []int{0, 1} {
		if levels := plays(t, q, api.TBDD, at(k, tag)); levels != uint16(3-k) {
			t.Errorf("Support of %v: %b", at(k, tag), levels)
		}
	}
}

func TestFirstErrors(t *testing.T) { // R2: in a store that is full: what is wrong ahead of Full; and Full, where a node is lacking
	s := mixed(t, 0)
	q, old := fresh(t, s, 7), records(s)
	for _, f := range forms {
		top := nothing
		for id := range uint32(len(old) + 2) {
			if e := tagged(f, id, 0); id > 1 && s.Leads(f, e, 0) {
				top = e
			}
		}
		noLevelOf(t, q, f, top, top)
		noLead(t, q, f, at(0, 22))
		noLead(t, q, f, at(9, 2))
		noCall(t, q, call{f: 6, a: top, b: top, level: 4, levels: 1 << 4}, api.Shape)
		full := 0
		for _, c := range callsOf(4, f, top, top) {
			if e, err := c.ask(q); err != api.OK {
				none(t, c, e, err, api.Full)
				full++
			} else {
				means(t, c, s, e, c.meant(s))
			}
		}
		if full == 0 {
			t.Errorf("as %d: nothing told Full", f)
		}
		if levels := plays(t, q, f, top); levels != supportOf(meaning(s, f, top, 0)) {
			t.Errorf("as %d: Support is %b", f, levels)
		}
	}
	sameNodes(t, s, old)
}

func TestLaws(t *testing.T) { // P20.5: of right edges, edge for edge, of drawn sets of up to eight levels, as each form
	r := rand.New(rand.NewSource(209))
	for n := 1; n < 9; n++ {
		s := made(t, n, api.MaxRoom)
		q := fresh(t, s, 10)
		for range 6 {
			a, b := drawn(r, n)
			for _, f := range forms {
				ea, eb := right(t, s, f, a), right(t, s, f, b)
				levels := uint16(r.Intn(1 << n))
				lawsOfLevels(t, q, f, ea, eb, levels)
				lawsOfLevel(t, q, f, ea, eb, r.Intn(n))
			}
		}
	}
}

// lawsOfLevels: of quantifiers of some levels.
func lawsOfLevels(t *testing.T, q *Quant, f api.Form, a, b api.Edge, levels uint16) {
	t.Helper()
	const and, or = 8, 14
	two, not, same := tools(t, q, f)
	some := func(e api.Edge, levels uint16) api.Edge {
		t.Helper()
		return told(t, q, call{kind: exists, f: f, a: e, levels: levels})
	}
	each := func(e api.Edge, levels uint16) api.Edge {
		t.Helper()
		return told(t, q, call{kind: forall, f: f, a: e, levels: levels})
	}
	both := func(a, b api.Edge) api.Edge {
		t.Helper()
		return told(t, q, call{kind: andExists, f: f, a: a, b: b, levels: levels})
	}
	same("each by some", each(a, levels), not(some(not(a), levels)))
	same("some by each", some(a, levels), not(each(not(a), levels)))
	same("both", both(a, b), some(two(and, a, b), levels))
	same("both, in any order", both(a, b), both(b, a))
	same("both of one", both(a, a), some(a, levels))
	same("some of either", some(two(or, a, b), levels), two(or, some(a, levels), some(b, levels)))
	same("each of both", each(two(and, a, b), levels), two(and, each(a, levels), each(b, levels)))
	same("some, twice", some(some(a, levels), levels), some(a, levels))
	same("each of some", each(some(a, levels), levels), some(a, levels))
	same("within some", two(or, a, some(a, levels)), some(a, levels))
	same("each within", two(and, a, each(a, levels)), each(a, levels))
	same("what plays no part goes out", both(a, some(b, levels)), two(and, some(a, levels), some(b, levels)))
	same("level by level", some(a, levels), some(some(a, levels&0x55), levels&0xaa))
	same("each, level by level", each(a, levels), each(each(a, levels&0xaa), levels&0x55))
	for _, e := range []api.Edge{some(a, levels), each(a, levels), both(a, b)} {
		if left := plays(t, q, f, e); left&levels != 0 {
			t.Fatalf("as %d: %b plays a part behind %b", f, left, levels)
		}
	}
	if left := plays(t, q, f, some(a, levels)); left&^plays(t, q, f, a) != 0 {
		t.Fatalf("as %d: %b plays a part", f, left)
	}
	free := ^plays(t, q, f, a) & uint16(1<<q.store().Vars()-1)
	same("some of what plays no part", some(a, free), a)
	same("each of what plays no part", each(a, free), a)
}

// lawsOfLevel: of what is set at one level.
func lawsOfLevel(t *testing.T, q *Quant, f api.Form, a, b api.Edge, level int) {
	t.Helper()
	const and, or = 8, 14
	two, not, same := tools(t, q, f)
	set := func(e api.Edge, one bool) api.Edge {
		t.Helper()
		return told(t, q, call{kind: with, f: f, a: e, level: level, one: one})
	}
	by := func(e, g api.Edge) api.Edge {
		t.Helper()
		return told(t, q, call{kind: compose, f: f, a: e, level: level, b: g})
	}
	nought, one := set(a, false), set(a, true)
	same("some of one level", told(t, q, call{kind: exists, f: f, a: a, levels: 1 << level}), two(or, nought, one))
	same("each of one level", told(t, q, call{kind: forall, f: f, a: a, levels: 1 << level}), two(and, nought, one))
	same("set twice", set(one, false), one)
	same("not of what is set", set(not(a), true), not(one))
	same("what is set of both", set(two(and, a, b), false), two(and, nought, set(b, false)))
	alone, err := canon.Cube(q.store(), f, 0, 1<<level, 0)
	if err != api.OK {
		t.Fatal(err)
	}
	same("by its halves", two(or, two(and, alone, one), two(and, not(alone), nought)), a)
	same("composed", by(a, b), two(or, two(and, b, one), two(and, not(b), nought)))
	same("composed by the level", by(a, alone), a)
	same("the level composed", by(alone, b), b)
	same("composed by all others of the level, twice", by(by(a, not(alone)), not(alone)), a)
	for _, e := range []api.Edge{nought, one, by(a, set(b, true))} {
		if left := plays(t, q, f, e); left>>level&1 == 1 {
			t.Fatalf("as %d: %b plays a part behind %d", f, left, level)
		}
	}
	if part := plays(t, q, f, a)>>level&1 == 1; part != (nought != one) || part != (nought != a) {
		t.Fatalf("as %d: %d plays a part: %v", f, level, part)
	}
}

// tools of laws: operations of two, all others, and whether edges are the same.
func tools(t *testing.T, q *Quant, f api.Form) (two func(op int, a, b api.Edge) api.Edge, not func(api.Edge) api.Edge, same func(law string, a, b api.Edge)) {
	t.Helper()
	two = func(op int, a, b api.Edge) api.Edge {
		t.Helper()
		e, err := q.o.Apply(f, op, a, b)
		if err != api.OK {
			t.Fatal(err)
		}
		return e
	}
	not = func(a api.Edge) api.Edge {
		t.Helper()
		return two(3, a, nothing)
	}
	same = func(law string, a, b api.Edge) {
		t.Helper()
		if a != b {
			t.Fatalf("%s as %d: %v, %v", law, f, a, b)
		}
	}
	return two, not, same
}

func TestFormsSideBySide(t *testing.T) { // P20.2, P20.3: one quantifier, all forms: what is done in one changes no other one
	r := rand.New(rand.NewSource(210))
	s := made(t, 6, api.MaxRoom)
	q := fresh(t, s, 4)
	for range 25 {
		a, b := drawn(r, 6)
		c := drawCall(r, 6, 0, nothing, nothing)
		var list []api.Edge
		for _, c.f = range forms {
			c.a, c.b = right(t, s, c.f, a), right(t, s, c.f, b)
			list = append(list, told(t, q, c))
		}
		for i, f := range forms {
			c.f = f
			means(t, c, s, list[i], c.wants(a, b))
		}
	}
}

func TestSixteen(t *testing.T) { // P20.2 to P20.5: sixteen levels: drawn sets, sparse and dense ones, long chains, with many kept answers and with few
	r := rand.New(rand.NewSource(211))
	sparse, dense := []byte(zeros(1<<16)), make([]byte, 1<<16)
	for range 60 {
		sparse[r.Intn(1<<16)] = '1'
	}
	for x := range dense {
		dense[x] = '0' + byte(r.Intn(2))
	}
	list := append(long(16), string(sparse), string(dense), draw(r, 16))
	for _, f := range forms {
		s := made(t, 16, api.MaxRoom)
		for _, bits := range []int{0, 16} {
			q := fresh(t, s, bits)
			for range 7 {
				a, b := list[r.Intn(len(list))], list[r.Intn(len(list))]
				ea, eb := right(t, s, f, a), right(t, s, f, b)
				tellsRight(t, q, drawCall(r, 16, f, ea, eb), a, b)
				if levels := plays(t, q, f, ea); levels != supportOf(a) {
					t.Fatalf("Support as %d: %b", f, levels)
				}
			}
			e := right(t, s, f, string(dense))
			for kind := range kinds {
				c := call{kind: kind, f: f, a: e, b: right(t, s, f, string(sparse)), levels: uint16(r.Intn(1 << 16)), level: 15 * r.Intn(2)}
				tellsRight(t, q, c, string(dense), string(sparse))
			}
		}
	}
}

func TestNothingPanics(t *testing.T) { // R1, R2, R6: drawn arguments of any kind, held against the first error that holds, and the same again
	r := rand.New(rand.NewSource(212))
	stores := []*store.Store{{}, made(t, 0, 3), everything(t, 2, 0), everything(t, 2, 3), mixed(t, 0), mixed(t, 9), mixed(t, 400), made(t, 5, 0), made(t, 5, 9), made(t, 16, 0)}
	all := []*Quant{nil, {}}
	for i, s := range stores {
		all = append(all, fresh(t, s, i), fresh(t, s, 20-i))
	}
	done := 0
	for range 60000 {
		q := all[r.Intn(len(all))]
		c := call{kind: r.Intn(kinds), f: api.Form(r.Intn(256) >> r.Intn(7)), a: wild(r), b: wild(r)}
		c.level, c.levels, c.one = ends(r), uint16(r.Intn(1<<16)>>r.Intn(17)), r.Intn(2) == 0
		if s := q.store(); s != nil && r.Intn(2) == 0 {
			c.f = forms[r.Intn(5)]
			c.a, c.b = tame(r, s, c.f), tame(r, s, c.f)
		}
		if anyTwice(t, q, c) == api.OK {
			done++
		}
	}
	if done < 6000 {
		t.Errorf("few calls told an edge: %d", done)
	}
}

// tame: an edge of a form that leads, where one is soon found.
func tame(r *rand.Rand, s *store.Store, f api.Form) api.Edge {
	for range 20 {
		e := tagged(f, uint32(r.Intn(s.Len()+2)), r.Intn(s.Vars()+1))
		if s.Leads(f, e, 0) {
			return e
		}
	}
	return nothing
}

// wild: an edge of any kind.
func wild(r *rand.Rand) api.Edge {
	if r.Intn(2) == 0 {
		return at(0, uint32(r.Intn(24)))
	}
	return at(r.Intn(256)>>r.Intn(9), r.Uint32()>>r.Intn(33))
}

// ends: numbers, some of them at their ends.
func ends(r *rand.Rand) int {
	return []int{-1, 0, 0, 1, 1, 2, 3, 4, 5, 15, 16, 255, 256, math.MaxInt, math.MinInt, r.Intn(300)}[r.Intn(16)]
}

// first: the error that holds, ahead of Full.
func first(q *Quant, c call) api.Err {
	s := q.store()
	level := c.kind == with || c.kind == compose
	switch {
	case s == nil:
		return api.Nil
	case c.f < 1 || c.f > 5:
		return api.Shape
	case !s.Leads(c.f, c.a, 0):
		return api.Arg
	case (c.kind == andExists || c.kind == compose) && !s.Leads(c.f, c.b, 0):
		return api.Arg
	case level && (c.level < 0 || c.level >= s.Vars()):
		return api.Var
	case !level && int(c.levels) >= 1<<s.Vars():
		return api.Var
	}
	return api.OK
}

// anyTwice: a call, twice, and Support; what the call told.
func anyTwice(t *testing.T, q *Quant, c call) api.Err {
	t.Helper()
	s, want := q.store(), first(q, c)
	size := s.Len()
	e, what := c.ask(q)
	err, later := what, s.Len()
	again, same := c.ask(q)
	if e != again || err != same || err != api.OK && e != nothing || s.Len() != later {
		t.Fatalf("%+v: %v, %v, then %v, %v", c, e, err, again, same)
	}
	if want != api.OK && (err != want || s.Len() != size) || want == api.OK && err != api.OK && err != api.Full {
		t.Fatalf("%+v: %v, %v, wanted %v", c, e, err, want)
	}
	small := s.Vars() < 9
	if err == api.OK && small {
		if c.kind != andExists && c.kind != compose {
			c.b = nothing
		}
		means(t, c, s, e, c.meant(s))
	}
	c.kind, c.levels = exists, 0
	levels, err := q.Support(c.f, c.a)
	if want = first(q, c); err != want || want != api.OK && levels != 0 || s.Len() != later {
		t.Fatalf("Support(%d, %v): %d, %v, wanted %v", c.f, c.a, levels, err, want)
	}
	if err == api.OK && small && levels != supportOf(meaning(s, c.f, c.a, 0)) {
		t.Fatalf("Support(%d, %v): %d", c.f, c.a, levels)
	}
	return what
}
