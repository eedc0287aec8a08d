package build

import (
	"math"
	"math/rand"
	"slices"
	"strings"
	"testing"

	"ramage/api"
	"ramage/canon"
	"ramage/node"
	"ramage/order"
	"ramage/set"
	"ramage/store"
)

var nothing = api.Edge{}

var forms = []api.Form{api.BDD, api.ZDD, api.CBDD, api.CZDD, api.TBDD}

// at: an edge with a tag.
func at(tag int, id uint32) api.Edge { return api.Edge{Tag: uint8(tag), At: id} }

// plain: an edge of a form to an id, that may stand at a level from 0 to the one that is told; of a TBDD that is its tag.
func plain(f api.Form, id uint32, tag int) api.Edge {
	if f == api.TBDD {
		return at(tag, id)
	}
	return at(0, id)
}

// made: a store.
func made(t *testing.T, n, room int) *store.Store {
	t.Helper()
	s, err := store.New(n, room)
	if err != api.OK || s == nil {
		t.Fatalf("New(%d, %d): %v", n, room, err)
	}
	return s
}

// found: the id of the node of a record that may be.
func found(t *testing.T, s *store.Store, r api.Record) uint32 {
	t.Helper()
	id, err := s.Find(r)
	if err != api.OK {
		t.Fatalf("Find(%v): %v", r, err)
	}
	return id
}

// ordered: the order of variables by levels.
func ordered(t *testing.T, p ...int) *order.Order {
	t.Helper()
	o, err := order.Of(p)
	if err != api.OK {
		t.Fatalf("order.Of(%v): %v", p, err)
	}
	return o
}

// inOrder: the order in which each variable has its own level.
func inOrder(t *testing.T, n int) *order.Order {
	t.Helper()
	p := make([]int, n)
	for v := range p {
		p[v] = v
	}
	return ordered(t, p...)
}

// orders of n variables: all.
func orders(t *testing.T, n int) []*order.Order {
	t.Helper()
	lists := [][]int{{}}
	for v := range n {
		var longer [][]int
		for _, p := range lists {
			for i := range len(p) + 1 {
				longer = append(longer, slices.Insert(slices.Clone(p), i, v))
			}
		}
		lists = longer
	}
	var all []*order.Order
	for _, p := range lists {
		all = append(all, ordered(t, p...))
	}
	return all
}

// zeros: so many.
func zeros(size int) string { return strings.Repeat("0", size) }

// padded: a table as the first ones of a greater table, whose others are 0.
func padded(table string, size int) string { return table + zeros(size-len(table)) }

// meaning: what an edge means, as the Words of its form's chapter tell it: a text of 0 and 1, one of these for each assignment of the levels from l on, the level l as its highest bit.
func meaning(s *store.Store, f api.Form, e api.Edge, l int) string {
	size := 1 << (s.Vars() - l)
	if e.At == 0 {
		return zeros(size)
	}
	part := "1"
	if e.At > 1 {
		r, _ := s.Get(e.At)
		part = meaningOfNode(s, r)
	}
	switch f {
	case api.BDD, api.CBDD:
		return strings.Repeat(part, size/len(part))
	case api.ZDD, api.CZDD:
		return padded(part, size)
	}
	below := 1 << (s.Vars() - int(e.Tag))
	return strings.Repeat(padded(part, below), size/below)
}

// meaningOfNode: likewise, at its Top.
func meaningOfNode(s *store.Store, r api.Record) string {
	below := int(r.Bot) + 1
	lo, hi := meaning(s, r.Form, r.Lo, below), meaning(s, r.Form, r.Hi, below)
	rows := 1 << (below - int(r.Top))
	if r.Form == api.CBDD {
		return lo + strings.Repeat(hi, rows-1)
	}
	return strings.Repeat(lo+hi, rows/2)
}

// byVariables: a table of an assignment each, by levels, as one by variables.
func byVariables(o *order.Order, byLevels string) string {
	b, p := make([]byte, len(byLevels)), o.Perm()
	for x := range b {
		b[x] = byLevels[placed(p, x)]
	}
	return string(b)
}

// placed: an assignment by levels, the level 0 as the highest bit, of variables by levels.
func placed(p []int, x int) int {
	place := 0
	for _, v := range p {
		place = place*2 + x>>v&1
	}
	return place
}

// byLevelsOf: back.
func byLevelsOf(o *order.Order, byVars string) string {
	b, p := make([]byte, len(byVars)), o.Perm()
	for x := range b {
		b[placed(p, x)] = byVars[x]
	}
	return string(b)
}

// table of a number's lowest bits.
func table(x uint64, size int) string {
	b := make([]byte, size)
	for i := range b {
		b[i] = '0' + byte(x>>i&1)
	}
	return string(b)
}

// setOf a table by variables.
func setOf(byVars string) api.Set {
	n := 0
	for 1<<n < len(byVars) {
		n++
	}
	words := make([]uint64, max(1, len(byVars)/64))
	for x := range len(byVars) {
		words[x/64] |= uint64(byVars[x]-'0') << (x % 64)
	}
	return api.Set{Vars: n, Words: words}
}

// tableOf a set, by variables.
func tableOf(t api.Set) string {
	b := make([]byte, 1<<t.Vars)
	for x := range b {
		b[x] = '0' + byte(t.Words[x/64]>>(x%64)&1)
	}
	return string(b)
}

// draw a table of so many variables: some even, some sparse, some dense, some made of few parts, some in which variables play no part, some in which they are 0.
func draw(r *rand.Rand, n int) string {
	kind := r.Intn(7)
	if kind == 3 && n > 2 {
		parts := []string{draw(r, n-2), draw(r, n-2), zeros(1 << (n - 2))}
		var b strings.Builder
		for range 4 {
			b.WriteString(parts[r.Intn(3)])
		}
		return b.String()
	}
	if kind == 4 && n > 0 {
		length := 1 + r.Intn(n)
		return strings.Repeat(draw(r, n-length), 1<<length)
	}
	if kind > 4 && n > 0 {
		return padded(draw(r, n-1-r.Intn((n+1)/2)), 1<<n)
	}
	limit := []int{4, 1, 7, 4, 4, 4, 4}[kind]
	b := make([]byte, 1<<n)
	for i := range b {
		b[i] = '0'
		if r.Intn(8) < limit {
			b[i] = '1'
		}
	}
	return string(b)
}

// drawnOrder of n variables.
func drawnOrder(t *testing.T, r *rand.Rand, n int) *order.Order {
	t.Helper()
	return ordered(t, r.Perm(n)...)
}

// partsOf a table by levels: the different ones at each level, counted.
func partsOf(byLevels string) int {
	seen := map[string]bool{}
	// Parts of different levels differ in their lengths.
	for length := len(byLevels); length > 1; length /= 2 {
		for i := 0; i < len(byLevels); i += length {
			seen[byLevels[i:i+length]] = true
		}
	}
	return len(seen)
}

// records of all nodes, by ids.
func records(s *store.Store) map[uint32]api.Record {
	all := map[uint32]api.Record{}
	for id := range s.Ids() {
		r, _ := s.Get(id)
		all[id] = r
	}
	return all
}

// sameNodes: has a store just these nodes?
func sameNodes(t *testing.T, s *store.Store, want map[uint32]api.Record) {
	t.Helper()
	if s.Len() != len(want) {
		t.Fatalf("%d nodes, wanted %d", s.Len(), len(want))
	}
	stillThere(t, s, want)
}

// stillThere: has a store these nodes, whatever others it has?
func stillThere(t *testing.T, s *store.Store, want map[uint32]api.Record) {
	t.Helper()
	for id, r := range want {
		if now, ok := s.Get(id); !ok || now != r {
			t.Fatalf("node %d is %v, wanted %v", id, now, r)
		}
	}
}

// leading: all edges of a form that lead at a level.
func leading(s *store.Store, f api.Form, l int) []api.Edge {
	list := []api.Edge{nothing}
	for id := range uint32(s.Len() + 2) {
		for tag := range s.Vars() + 1 {
			if id > 0 && s.Leads(f, at(tag, id), l) {
				list = append(list, at(tag, id))
			}
		}
	}
	return list
}

// anyEdges: edges to nothing, to one, to each id up to the last one and some behind it, with tags that may be and others.
func anyEdges(n int, last uint32) []api.Edge {
	ids := []uint32{1 << 20, 1<<20 + 1, 1 << 31, math.MaxUint32}
	for id := range last + 3 {
		ids = append(ids, id)
	}
	var l []api.Edge
	for _, id := range ids {
		for tag := range n + 2 {
			l = append(l, at(tag, id))
		}
		l = append(l, at(17, id), at(255, id))
	}
	return l
}

// everything: all nodes of all forms that may be of n variables, right and cut ones, in a store with room for some more.
func everything(t *testing.T, n, more int) *store.Store {
	t.Helper()
	s := made(t, n, []int{0, 10, 82, 1958}[n]+more)
	for bot := n - 1; bot >= 0; bot-- {
		for _, f := range forms {
			below := leading(s, f, bot+1)
			for _, lo := range below {
				for _, hi := range below {
					for top := bot; top >= 0; top-- {
						r := api.Record{Form: f, Top: uint8(top), Bot: uint8(bot), Lo: lo, Hi: hi}
						if node.Right(r, n) {
							found(t, s, r)
						}
					}
				}
			}
		}
	}
	if s.Len() != s.Room()-more {
		t.Fatalf("%d nodes, wanted %d", s.Len(), s.Room()-more)
	}
	return s
}

// mixed: all forms in one store of 4 variables, right and cut diagrams side by side, with room for some more nodes.
func mixed(t *testing.T, more int) *store.Store {
	t.Helper()
	s := made(t, 4, 20+more)
	one := at(0, 1)
	for _, f := range forms {
		low := found(t, s, api.Record{Form: f, Top: 3, Bot: 3, Hi: plain(f, 1, 4)})
		middle := found(t, s, api.Record{Form: f, Top: 1, Bot: 1, Lo: plain(f, low, 2), Hi: plain(f, 1, 2)})
		found(t, s, api.Record{Form: f, Top: 0, Bot: 0, Lo: plain(f, middle, 1), Hi: plain(f, low, 3)})
	}
	// Chains of three levels, and ones that are cut in two.
	any3 := found(t, s, api.Record{Form: api.CBDD, Top: 1, Bot: 3, Hi: one})
	found(t, s, api.Record{Form: api.CBDD, Top: 0, Bot: 0, Lo: at(0, any3), Hi: one})
	free3 := found(t, s, api.Record{Form: api.CZDD, Top: 1, Bot: 3, Hi: one})
	found(t, s, api.Record{Form: api.CZDD, Top: 0, Bot: 0, Lo: at(0, free3), Hi: at(0, free3)})
	// A node that a tag alone would tell.
	low, _ := s.Has(api.Record{Form: api.TBDD, Top: 3, Bot: 3, Hi: at(4, 1)})
	found(t, s, api.Record{Form: api.TBDD, Top: 2, Bot: 2, Lo: at(3, low)})
	if s.Len() != 20 {
		t.Fatalf("%d nodes", s.Len())
	}
	return s
}

// of1: Of, where it must tell an edge.
func of1(t *testing.T, s *store.Store, o *order.Order, f api.Form, byVars string) api.Edge {
	t.Helper()
	e, err := Of(s, o, f, setOf(byVars))
	if err != api.OK {
		t.Fatalf("Of(%v, %d, %s): %v", o.Perm(), f, byVars, err)
	}
	return e
}

// cube1: Cube, likewise.
func cube1(t *testing.T, s *store.Store, o *order.Order, f api.Form, ones, noughts uint16) api.Edge {
	t.Helper()
	e, err := Cube(s, o, f, api.Cube{Ones: ones, Noughts: noughts})
	if err != api.OK {
		t.Fatalf("Cube(%v, %d, %b, %b): %v", o.Perm(), f, ones, noughts, err)
	}
	return e
}

// const1: Const, likewise.
func const1(t *testing.T, s *store.Store, o *order.Order, f api.Form, all bool) api.Edge {
	t.Helper()
	e, err := Const(s, o, f, all)
	if err != api.OK {
		t.Fatalf("Const(%v, %d, %v): %v", o.Perm(), f, all, err)
	}
	return e
}

// var1: Var, likewise.
func var1(t *testing.T, s *store.Store, o *order.Order, f api.Form, v int) api.Edge {
	t.Helper()
	e, err := Var(s, o, f, v)
	if err != api.OK {
		t.Fatalf("Var(%v, %d, %d): %v", o.Perm(), f, v, err)
	}
	return e
}

// setIs: Set, where it must tell this; without a node more or less.
func setIs(t *testing.T, s *store.Store, o *order.Order, f api.Form, e api.Edge, byVars string) {
	t.Helper()
	size := s.Len()
	got, err := Set(s, o, f, e)
	if err != api.OK || !set.Right(got) || got.Vars != s.Vars() || tableOf(got) != byVars {
		t.Fatalf("Set(%v, %d, %v): %v, %v, wanted %s", o.Perm(), f, e, got, err, byVars)
	}
	if s.Len() != size {
		t.Fatalf("Set(%v, %d, %v) leaves %d nodes of %d", o.Perm(), f, e, s.Len(), size)
	}
}

// hasIs: Has of each assignment, likewise.
func hasIs(t *testing.T, s *store.Store, o *order.Order, f api.Form, e api.Edge, byVars string) {
	t.Helper()
	size := s.Len()
	for x := range byVars {
		if in, err := Has(s, o, f, e, x); in != (byVars[x] == '1') || err != api.OK {
			t.Fatalf("Has(%v, %d, %v, %d): %v, %v, wanted %c", o.Perm(), f, e, x, in, err, byVars[x])
		}
	}
	if s.Len() != size {
		t.Fatalf("Has(%v, %d, %v) leaves %d nodes of %d", o.Perm(), f, e, s.Len(), size)
	}
}

// diagramIs: is an edge the right one of a set, by its Words and by Set and Has?
func diagramIs(t *testing.T, s *store.Store, o *order.Order, f api.Form, e api.Edge, byVars string) {
	t.Helper()
	if !s.Leads(f, e, 0) || !canon.Right(s, f, e, 0) {
		t.Fatalf("under %v as %d: %v of %s isn't right", o.Perm(), f, e, byVars)
	}
	if got, want := meaning(s, f, e, 0), byLevelsOf(o, byVars); got != want {
		t.Fatalf("under %v as %d: %v of %s means %s, wanted %s", o.Perm(), f, e, byVars, got, want)
	}
	setIs(t, s, o, f, e, byVars)
	hasIs(t, s, o, f, e, byVars)
}

// none: no edge, and this error.
func none(t *testing.T, what string, e api.Edge, err, want api.Err) {
	t.Helper()
	if e != nothing || err != want {
		t.Fatalf("%s: %v, %v, wanted %v", what, e, err, want)
	}
}

// noEdge: Set and Has, where they must tell an error.
func noEdge(t *testing.T, s *store.Store, o *order.Order, f api.Form, e api.Edge, want api.Err) {
	t.Helper()
	if got, err := Set(s, o, f, e); got.Vars != 0 || len(got.Words) != 0 || err != want {
		t.Fatalf("Set(%v, %d, %v): %v, %v, wanted %v", o.Perm(), f, e, got, err, want)
	}
	for _, x := range []int{0, 1, 3, -1, 1 << 16, math.MaxInt, math.MinInt} {
		if in, err := Has(s, o, f, e, x); in || err != want {
			t.Fatalf("Has(%v, %d, %v, %d): %v, %v, wanted %v", o.Perm(), f, e, x, in, err, want)
		}
	}
}

// noCall: each of the calls, of right arguments and of wrong ones, where they must all tell one error.
func noCall(t *testing.T, s *store.Store, o *order.Order, f api.Form, want api.Err) {
	t.Helper()
	full, _ := set.All(s.Vars())
	for _, u := range append(wrongSets(), full, api.Set{Vars: 0, Words: []uint64{1}}) {
		e, err := Of(s, o, f, u)
		none(t, "Of", e, err, want)
	}
	for _, e := range []api.Edge{nothing, at(0, 1), at(1, 1), at(0, 2), at(3, 0), at(255, math.MaxUint32)} {
		noEdge(t, s, o, f, e, want)
	}
	for _, all := range []bool{true, false} {
		e, err := Const(s, o, f, all)
		none(t, "Const", e, err, want)
	}
	for _, v := range []int{0, 1, 15, 16, -1, math.MaxInt, math.MinInt} {
		e, err := Var(s, o, f, v)
		none(t, "Var", e, err, want)
	}
	for _, c := range []api.Cube{{}, {Ones: 1}, {Noughts: 1}, {Ones: 1, Noughts: 1}, {Ones: 1 << 15}, {Ones: math.MaxUint16, Noughts: math.MaxUint16}} {
		e, err := Cube(s, o, f, c)
		none(t, "Cube", e, err, want)
	}
}

// wrongSets: sets that aren't right.
func wrongSets() []api.Set {
	return []api.Set{
		{},
		{Vars: 0, Words: []uint64{2}},
		{Vars: 0, Words: []uint64{0, 0}},
		{Vars: 1, Words: []uint64{4}},
		{Vars: 2, Words: []uint64{1 << 4}},
		{Vars: 2, Words: []uint64{1, 0}},
		{Vars: 2},
		{Vars: 3, Words: []uint64{1 << 8}},
		{Vars: 3, Words: []uint64{math.MaxUint64}},
		{Vars: 6, Words: []uint64{}},
		{Vars: 7, Words: []uint64{1}},
		{Vars: 7, Words: []uint64{1, 1, 0}},
		{Vars: 16, Words: make([]uint64, 1023)},
		{Vars: 16, Words: make([]uint64, 1025)},
		{Vars: 17, Words: make([]uint64, 2048)},
		{Vars: -1, Words: []uint64{0}},
		{Vars: math.MaxInt, Words: []uint64{0}},
		{Vars: math.MinInt, Words: []uint64{0}},
	}
}

// noForms: what is no form.
func noForms() []api.Form {
	list := []api.Form{0}
	for f := 6; f < 256; f++ {
		list = append(list, api.Form(f))
	}
	return list
}

func TestExample(t *testing.T) { // P18.2: the chapter's example, and both variables in each form: how many nodes they have
	for _, c := range []struct {
		f      api.Form
		upper  int // of the variable 1, at the level 0
		lower  int
		lowest string // the node of the variable 0; none, where its ids are the program's
	}{
		{api.BDD, 1, 1, "bdd 1:1 0 1"},
		{api.ZDD, 2, 2, ""},
		{api.CBDD, 1, 1, "cbdd 1:1 0 1"},
		{api.CZDD, 2, 1, "czdd 0:1 0 1"},
		{api.TBDD, 1, 1, "tbdd 1:1 0 1@2"},
	} {
		s, o := made(t, 2, 10), ordered(t, 1, 0)
		upper, lower := var1(t, s, o, c.f, 1), var1(t, s, o, c.f, 0)
		diagramIs(t, s, o, c.f, upper, "0011")
		diagramIs(t, s, o, c.f, lower, "0101")
		if sizeOf(t, s, c.f, upper) != c.upper || sizeOf(t, s, c.f, lower) != c.lower {
			t.Errorf("as %d: %d nodes, and %d", c.f, sizeOf(t, s, c.f, upper), sizeOf(t, s, c.f, lower))
		}
		if r, _ := s.Get(lower.At); c.lowest != "" && node.Text(r) != c.lowest {
			t.Errorf("as %d: %s, wanted %s", c.f, node.Text(r), c.lowest)
		}
	}
}

func TestOfEach(t *testing.T) { // P18.1, P18.3: every set of up to three variables, in each form, under each order: its edge, and back
	for n := range 4 {
		for _, o := range orders(t, n) {
			s := made(t, n, 10000)
			for _, f := range forms {
				sets := map[api.Edge]string{}
				for x := range uint64(1) << (1 << n) {
					byVars := table(x, 1<<n)
					e := of1(t, s, o, f, byVars)
					diagramIs(t, s, o, f, e, byVars)
					if other, old := sets[e]; old {
						t.Fatalf("under %v as %d: %v of %s and of %s", o.Perm(), f, e, other, byVars)
					}
					sets[e] = byVars
				}
				size := s.Len()
				for e, byVars := range sets {
					if again := of1(t, s, o, f, byVars); again != e {
						t.Fatalf("under %v as %d: %s is %v, was %v", o.Perm(), f, byVars, again, e)
					}
				}
				if s.Len() != size {
					t.Fatalf("%d nodes, were %d", s.Len(), size)
				}
			}
		}
	}
}

func TestOfDrawn(t *testing.T) { // P18.1, P18.3: drawn sets of up to ten variables, under drawn orders, all forms in one store
	r := rand.New(rand.NewSource(181))
	for n := range 11 {
		s, o := made(t, n, api.MaxRoom), drawnOrder(t, r, n)
		sets := map[api.Form]map[api.Edge]string{}
		for range 12 {
			byVars := draw(r, n)
			for _, f := range forms {
				old := records(s)
				e := of1(t, s, o, f, byVars)
				stillThere(t, s, old)
				diagramIs(t, s, o, f, e, byVars)
				if sets[f] == nil {
					sets[f] = map[api.Edge]string{}
				}
				if other, told := sets[f][e]; told && other != byVars {
					t.Fatalf("%v of %s and of %s", e, other, byVars)
				}
				sets[f][e] = byVars
			}
		}
		for f, all := range sets {
			for e, byVars := range all {
				setIs(t, s, o, f, e, byVars)
				if again := of1(t, s, o, f, byVars); again != e {
					t.Fatalf("as %d: %s is %v, was %v", f, byVars, again, e)
				}
			}
		}
	}
}

func TestOfUnderOrders(t *testing.T) { // P18.1: one set under each order of four variables, in one store: sizes hang on the order, sets don't
	byVars := make([]byte, 16)
	for x := range byVars {
		byVars[x] = '0'
		if x&5 == 5 || x&10 == 10 {
			byVars[x] = '1'
		}
	}
	s := made(t, 4, 1000)
	for _, o := range orders(t, 4) {
		for _, f := range forms {
			e := of1(t, s, o, f, string(byVars))
			diagramIs(t, s, o, f, e, string(byVars))
			size, err := canon.Size(s, f, e, 0)
			// The partner of the topmost variable stands next to it, or not.
			pair := o.Var(0)^2 == o.Var(1)
			if want := map[bool]int{true: 4, false: 6}[pair]; f == api.BDD && (size != want || err != api.OK) {
				t.Errorf("under %v: %d nodes, %v, wanted %d", o.Perm(), size, err, want)
			}
		}
	}
}

func TestOtherOrder(t *testing.T) { // P18.1: an edge read under another order than the one that it was made under
	r := rand.New(rand.NewSource(182))
	for n := range 7 {
		s := made(t, n, api.MaxRoom)
		for range 20 {
			o, other := drawnOrder(t, r, n), drawnOrder(t, r, n)
			byVars := draw(r, n)
			for _, f := range forms {
				e := of1(t, s, o, f, byVars)
				want := byVariables(other, byLevelsOf(o, byVars))
				setIs(t, s, other, f, e, want)
				hasIs(t, s, other, f, e, want)
				if back := of1(t, s, other, f, want); back != e {
					t.Fatalf("under %v as %d: %v, was %v", other.Perm(), f, back, e)
				}
			}
		}
	}
}

func TestEachEdge(t *testing.T) { // P18.1: Set and Has of all edges of stores in which all nodes are that may be of up to two variables: what leads at the level 0, made by Of or not, and Arg of all others
	for n := range 3 {
		s := everything(t, n, 0)
		old := records(s)
		for _, o := range orders(t, n) {
			eachEdge(t, s, o)
		}
		sameNodes(t, s, old)
	}
	for _, more := range []int{0, 7} {
		s := mixed(t, more)
		old := records(s)
		eachEdge(t, s, ordered(t, 2, 0, 3, 1))
		sameNodes(t, s, old)
	}
}

// eachEdge: of each form, to each id, with each tag.
func eachEdge(t *testing.T, s *store.Store, o *order.Order) {
	t.Helper()
	for _, f := range forms {
		for _, e := range anyEdges(s.Vars(), uint32(s.Len()+1)) {
			if !s.Leads(f, e, 0) {
				noEdge(t, s, o, f, e, api.Arg)
				continue
			}
			byVars := byVariables(o, meaning(s, f, e, 0))
			setIs(t, s, o, f, e, byVars)
			hasIs(t, s, o, f, e, byVars)
		}
	}
}

func TestAllOfThree(t *testing.T) { // P18.1, P18.3: all nodes that may be of three variables: Set of each edge, and Of of it, which is the edge just if that is right
	s := everything(t, 3, 0)
	old := records(s)
	for _, o := range []*order.Order{inOrder(t, 3), ordered(t, 1, 2, 0)} {
		for _, f := range forms {
			for _, e := range leading(s, f, 0) {
				byVars := byVariables(o, meaning(s, f, e, 0))
				setIs(t, s, o, f, e, byVars)
				if back := of1(t, s, o, f, byVars); (back == e) != canon.Right(s, f, e, 0) {
					t.Fatalf("under %v as %d: %v is %s, that is %v", o.Perm(), f, e, byVars, back)
				}
			}
		}
	}
	sameNodes(t, s, old)
}

func TestThereAndBack(t *testing.T) { // P18.3: right edges that Of didn't make: by canon's Make, of drawn halves
	r := rand.New(rand.NewSource(183))
	for n := 1; n < 8; n++ {
		s, o := made(t, n, api.MaxRoom), drawnOrder(t, r, n)
		for _, f := range forms {
			right := [][]api.Edge{{nothing, node.One(f, n)}}
			for l := n - 1; l >= 0; l-- {
				below := right[len(right)-1]
				var here []api.Edge
				for range 6 {
					e, err := canon.Make(s, f, l, below[r.Intn(len(below))], below[r.Intn(len(below))])
					if err != api.OK {
						t.Fatal(err)
					}
					here = append(here, e)
				}
				right = append(right, here)
			}
			for _, e := range right[n] {
				got, err := Set(s, o, f, e)
				if err != api.OK {
					t.Fatal(err)
				}
				if back, err := Of(s, o, f, got); back != e || err != api.OK {
					t.Fatalf("under %v as %d: %v, %v, was %v", o.Perm(), f, back, err, e)
				}
			}
		}
	}
}

func TestNoLeadByHand(t *testing.T) { // P18.1: edges that don't lead at the level 0, one by one
	s, o := made(t, 3, 9), ordered(t, 2, 0, 1)
	low := found(t, s, api.Record{Form: api.BDD, Top: 1, Bot: 1, Hi: at(0, 1)})
	tag := found(t, s, api.Record{Form: api.TBDD, Top: 1, Bot: 1, Hi: at(3, 1)})
	old := records(s)
	for _, c := range []struct {
		f api.Form
		e api.Edge
	}{
		{api.BDD, at(0, 4)}, // no node's
		{api.TBDD, at(0, 4)},
		{api.ZDD, at(0, math.MaxUint32)},
		{api.ZDD, at(0, low)}, // of another form
		{api.CBDD, at(0, low)},
		{api.TBDD, at(0, low)},
		{api.BDD, at(0, tag)},
		{api.BDD, at(1, low)}, // not plain
		{api.BDD, at(1, 1)},
		{api.CZDD, at(3, 1)},
		{api.ZDD, at(1, 0)},
		{api.TBDD, at(1, 0)},
		{api.TBDD, at(4, 1)},
		{api.TBDD, at(255, 1)},
		{api.TBDD, at(2, tag)}, // a Tag behind its node
		{api.TBDD, at(3, tag)},
	} {
		noEdge(t, s, o, c.f, c.e, api.Arg)
	}
	setIs(t, s, o, api.TBDD, at(1, tag), "01010101")
	setIs(t, s, o, api.TBDD, at(0, tag), "01010000")
	sameNodes(t, s, old)
}

func TestNoAssignment(t *testing.T) { // P18.1: Has of numbers that are no assignments, of 0 to 16 variables
	for n := range api.MaxVars + 1 {
		s, o := made(t, n, 0), inOrder(t, n)
		for _, f := range forms {
			for _, e := range []api.Edge{nothing, node.One(f, n)} {
				for _, x := range []int{-1, -2, -1 << 16, 1 << n, 1<<n + 1, 1 << 16, 1<<16 + 1, 1 << 32, 1 << 62, math.MaxInt, math.MinInt, math.MinInt + 1} {
					if in, err := Has(s, o, f, e, x); in || err != api.Arg {
						t.Fatalf("n %d: Has(%d, %v, %d): %v, %v", n, f, e, x, in, err)
					}
				}
				for _, x := range []int{0, 1<<n - 1} {
					want := e.At == 1 && (x == 0 || f == api.BDD || f == api.CBDD || f == api.TBDD)
					if in, err := Has(s, o, f, e, x); in != want || err != api.OK {
						t.Fatalf("n %d: Has(%d, %v, %d): %v, %v", n, f, e, x, in, err)
					}
				}
			}
		}
	}
}

func TestWrongSets(t *testing.T) { // P18.1: Of of sets that aren't right, or of other variables than the store's, with room and without
	for _, n := range []int{0, 1, 2, 3, 7, 16} {
		for _, room := range []int{0, 100} {
			s, o := made(t, n, room), inOrder(t, n)
			for _, f := range forms {
				for _, u := range wrongSets() {
					e, err := Of(s, o, f, u)
					none(t, "Of", e, err, api.Arg)
				}
				for m := range api.MaxVars + 1 {
					all, _ := set.All(m)
					some, _ := set.Nothing(m)
					if m == n {
						continue
					}
					e, err := Of(s, o, f, all)
					none(t, "Of", e, err, api.Arg)
					e, err = Of(s, o, f, some)
					none(t, "Of", e, err, api.Arg)
				}
			}
			if s.Len() != 0 {
				t.Errorf("%d nodes", s.Len())
			}
		}
	}
}

// cubeTable: by variables.
func cubeTable(n int, ones, noughts uint16) string {
	b := make([]byte, 1<<n)
	for x := range b {
		b[x] = '0'
		if uint16(x)&ones == ones && uint16(x)&noughts == 0 {
			b[x] = '1'
		}
	}
	return string(b)
}

// cubes: what is done for each of the cubes of n variables.
func cubes(n int, do func(ones, noughts uint16)) {
	for ones := range uint16(1) << n {
		for noughts := range uint16(1) << n {
			if ones&noughts == 0 {
				do(ones, noughts)
			}
		}
	}
}

func TestCubes(t *testing.T) { // P18.2, P18.3: Const, Var and Cube, of all cubes of up to four variables, in each form, under each order: what they mean, and the edge that Of tells
	for n := range 5 {
		for _, o := range orders(t, n) {
			s := made(t, n, 5000)
			for _, f := range forms {
				none := const1(t, s, o, f, false)
				diagramIs(t, s, o, f, none, zeros(1<<n))
				all := const1(t, s, o, f, true)
				diagramIs(t, s, o, f, all, strings.Repeat("1", 1<<n))
				if none != nothing || all != of1(t, s, o, f, strings.Repeat("1", 1<<n)) || all != cube1(t, s, o, f, 0, 0) {
					t.Errorf("under %v as %d: %v, %v", o.Perm(), f, none, all)
				}
				for v := range n {
					e := var1(t, s, o, f, v)
					diagramIs(t, s, o, f, e, cubeTable(n, 1<<v, 0))
					if again := cube1(t, s, o, f, 1<<v, 0); again != e {
						t.Errorf("under %v as %d: Var of %d is %v, its cube %v", o.Perm(), f, v, e, again)
					}
				}
				cubes(n, func(ones, noughts uint16) {
					e := cube1(t, s, o, f, ones, noughts)
					byVars := cubeTable(n, ones, noughts)
					diagramIs(t, s, o, f, e, byVars)
					if again := of1(t, s, o, f, byVars); again != e {
						t.Errorf("under %v as %d: Cube(%b, %b) is %v, its set %v", o.Perm(), f, ones, noughts, e, again)
					}
				})
			}
		}
	}
}

func TestCubesDrawn(t *testing.T) { // P18.2: drawn cubes of up to twelve variables, under drawn orders
	r := rand.New(rand.NewSource(184))
	for n := range 13 {
		s := made(t, n, api.MaxRoom)
		for range 6 {
			o := drawnOrder(t, r, n)
			ones := uint16(r.Intn(1 << n))
			noughts := uint16(r.Intn(1<<n)) &^ ones
			if r.Intn(2) == 0 {
				ones, noughts = noughts, ones
			}
			for _, f := range forms {
				before := s.Len()
				e := cube1(t, s, o, f, ones, noughts)
				if s.Len() > before+2*n {
					t.Errorf("%d nodes for %d variables", s.Len()-before, n)
				}
				diagramIs(t, s, o, f, e, cubeTable(n, ones, noughts))
			}
		}
	}
}

func TestNoVar(t *testing.T) { // P18.2: numbers that are no variable's, of 0 to 16 variables, with room and without
	for n := range api.MaxVars + 1 {
		for _, room := range []int{0, 40} {
			s, o := made(t, n, room), inOrder(t, n)
			for _, f := range forms {
				for _, v := range []int{-1, -2, -64, n, n + 1, 17, 64, 256, 1 << 16, 1 << 32, math.MaxInt, math.MaxInt - 1, math.MinInt, math.MinInt + 1} {
					e, err := Var(s, o, f, v)
					none(t, "Var", e, err, api.Var)
				}
			}
			if s.Len() != 0 {
				t.Errorf("%d nodes", s.Len())
			}
		}
	}
}

func TestWrongCubes(t *testing.T) { // P18.2: a bit for no variable, ahead of one that both have; of 0 to 16 variables, with room and without
	for n := range api.MaxVars + 1 {
		within := uint16(1<<n - 1)
		for _, room := range []int{0, 40} {
			s, o := made(t, n, room), inOrder(t, n)
			for _, f := range forms {
				for k := range 16 {
					want, bit := api.Arg, uint16(1)<<k
					if k >= n {
						want = api.Var
					}
					for _, c := range []api.Cube{
						{Ones: bit, Noughts: bit},
						{Ones: bit | within, Noughts: bit},
						{Ones: bit, Noughts: bit | within},
						{Ones: bit | within, Noughts: bit | within},
					} {
						e, err := Cube(s, o, f, c)
						none(t, "Cube", e, err, want)
					}
					if k < n {
						continue
					}
					for _, c := range []api.Cube{
						{Ones: bit},
						{Noughts: bit},
						{Ones: bit, Noughts: within},
						{Ones: within, Noughts: bit},
						{Ones: within, Noughts: bit | within},
						{Ones: math.MaxUint16, Noughts: math.MaxUint16},
					} {
						e, err := Cube(s, o, f, c)
						none(t, "Cube", e, err, api.Var)
					}
				}
			}
			if s.Len() != 0 {
				t.Errorf("%d nodes", s.Len())
			}
		}
	}
}

func TestCubesOfAnyBits(t *testing.T) { // P18.2: each pair of bits of up to four, of two variables
	for _, o := range orders(t, 2) {
		s := made(t, 2, 60)
		for _, f := range forms {
			for ones := range uint16(16) {
				for noughts := range uint16(16) {
					size := s.Len()
					e, err := Cube(s, o, f, api.Cube{Ones: ones, Noughts: noughts})
					switch {
					case ones|noughts > 3:
						none(t, "Cube", e, err, api.Var)
					case ones&noughts != 0:
						none(t, "Cube", e, err, api.Arg)
					default:
						diagramIs(t, s, o, f, e, cubeTable(2, ones, noughts))
						size = s.Len()
					}
					if s.Len() != size {
						t.Fatalf("Cube(%b, %b) makes a node", ones, noughts)
					}
				}
			}
		}
	}
}

func TestOfFull(t *testing.T) { // P18.1: in a store of each room from 0 on: Full only where there is no room for as many nodes as there are parts, and always where there is none for the diagram; nothing beside it
	r := rand.New(rand.NewSource(185))
	for n := range 7 {
		for range 25 {
			o, byVars := drawnOrder(t, r, n), draw(r, n)
			parts := partsOf(byLevelsOf(o, byVars))
			for _, f := range forms {
				ample := made(t, n, parts)
				size := sizeOf(t, ample, f, of1(t, ample, o, f, byVars))
				for room := range parts + 2 {
					ofFull(t, made(t, n, room), o, f, byVars, room >= parts, room < size)
				}
			}
		}
	}
}

// sizeOf an edge: how many nodes it reaches.
func sizeOf(t *testing.T, s *store.Store, f api.Form, e api.Edge) int {
	t.Helper()
	size, err := canon.Size(s, f, e, 0)
	if err != api.OK {
		t.Fatal(err)
	}
	return size
}

// ofFull: Of in a store with little room, told twice.
func ofFull(t *testing.T, s *store.Store, o *order.Order, f api.Form, byVars string, must, mustNot bool) {
	t.Helper()
	old := records(s)
	e, err := Of(s, o, f, setOf(byVars))
	stillThere(t, s, old)
	if must && err != api.OK || mustNot && err != api.Full || err != api.OK && err != api.Full {
		t.Fatalf("room for %d, of %d: Of(%v, %d, %s): %v, %v", s.Room()-len(old), s.Room(), o.Perm(), f, byVars, e, err)
	}
	if err == api.Full {
		none(t, "Of", e, err, api.Full)
		e, err = Of(s, o, f, setOf(byVars))
		none(t, "Of", e, err, api.Full)
		return
	}
	diagramIs(t, s, o, f, e, byVars)
	size := s.Len()
	if again := of1(t, s, o, f, byVars); again != e || s.Len() != size {
		t.Fatalf("%v, then %v, of %d nodes, then %d", e, again, size, s.Len())
	}
}

func TestOfFullEach(t *testing.T) { // P18.1: likewise, of every set of up to two variables and of each seventh of three
	for n := range 4 {
		step := uint64(1)
		if n == 3 {
			step = 7
		}
		for _, o := range orders(t, n) {
			for x := uint64(0); x < 1<<(1<<n); x += step {
				byVars := table(x, 1<<n)
				parts := partsOf(byLevelsOf(o, byVars))
				for _, f := range forms {
					for room := range parts + 1 {
						ofFull(t, made(t, n, room), o, f, byVars, room >= parts, false)
					}
				}
			}
		}
	}
}

func TestOfFullBeside(t *testing.T) { // P18.1: in a store in which other nodes are: what counts is the room beside them
	r := rand.New(rand.NewSource(186))
	for range 60 {
		o, byVars := drawnOrder(t, r, 4), draw(r, 4)
		parts := partsOf(byLevelsOf(o, byVars))
		for _, f := range forms {
			for more := range parts + 1 {
				ofFull(t, mixed(t, more), o, f, byVars, more >= parts, false)
			}
		}
	}
}

func TestCubesFull(t *testing.T) { // P18.2: Const, Var and Cube in a store of each room from 0 on: Full only where there is no room for 2n nodes, and no more than these are made
	for n := range 5 {
		for _, o := range []*order.Order{inOrder(t, n), reversed(t, n)} {
			for _, f := range forms {
				for room := range 2*n + 2 {
					s := made(t, n, room)
					e, err := Const(s, o, f, false)
					none(t, "Const", e, err, api.OK)
					e, err = Const(s, o, f, true)
					cubeFull(t, s, o, f, e, err, 0, 0)
					for v := range n {
						s = made(t, n, room)
						e, err = Var(s, o, f, v)
						cubeFull(t, s, o, f, e, err, 1<<v, 0)
					}
					cubes(n, func(ones, noughts uint16) {
						s := made(t, n, room)
						e, err := Cube(s, o, f, api.Cube{Ones: ones, Noughts: noughts})
						cubeFull(t, s, o, f, e, err, ones, noughts)
					})
				}
			}
		}
	}
}

// reversed: the order in which the last variable stands topmost.
func reversed(t *testing.T, n int) *order.Order {
	t.Helper()
	p := make([]int, n)
	for v := range p {
		p[v] = n - 1 - v
	}
	return ordered(t, p...)
}

// cubeFull: what was told of a cube in a store that had no node.
func cubeFull(t *testing.T, s *store.Store, o *order.Order, f api.Form, e api.Edge, err api.Err, ones, noughts uint16) {
	t.Helper()
	n, byVars := s.Vars(), cubeTable(s.Vars(), ones, noughts)
	if s.Len() > 2*n {
		t.Fatalf("%d nodes for %d variables", s.Len(), n)
	}
	if err == api.OK {
		diagramIs(t, s, o, f, e, byVars)
		return
	}
	none(t, "a cube", e, err, api.Full)
	if s.Room() >= 2*n {
		t.Fatalf("as %d, room %d: Full of %s", f, s.Room(), byVars)
	}
}

func TestReadAlone(t *testing.T) { // P18.1: Set and Has of a diagram with no other node beside it, such as the rest of a chain, in a store that is full and in one that isn't
	r := rand.New(rand.NewSource(187))
	for n := range 8 {
		sets := []string{strings.Repeat("1", 1<<n), "0" + strings.Repeat("1", 1<<n-1), padded("1", 1<<n)}
		for range 10 {
			sets = append(sets, draw(r, n))
		}
		for _, byVars := range sets {
			o := drawnOrder(t, r, n)
			for _, f := range forms {
				s := made(t, n, partsOf(byLevelsOf(o, byVars)))
				e := of1(t, s, o, f, byVars)
				s.Sweep([]api.Edge{e})
				for _, more := range []int{0, 5} {
					alone := made(t, n, s.Len()+more)
					readAlone(t, alone, o, f, copied(t, s, alone, e), byVars)
				}
			}
		}
	}
}

// readAlone: Set and Has, of right arguments and wrong ones; no node is made.
func readAlone(t *testing.T, s *store.Store, o *order.Order, f api.Form, e api.Edge, byVars string) {
	t.Helper()
	old := records(s)
	diagramIs(t, s, o, f, e, byVars)
	noEdge(t, s, o, f, at(0, uint32(s.Len()+2)), api.Arg)
	if in, err := Has(s, o, f, e, len(byVars)); in || err != api.Arg {
		t.Fatalf("Has: %v, %v", in, err)
	}
	sameNodes(t, s, old)
}

// copied: an edge's nodes in another store.
func copied(t *testing.T, from, to *store.Store, e api.Edge) api.Edge {
	t.Helper()
	r, ok := from.Get(e.At)
	if !ok {
		return e
	}
	r.Lo, r.Hi = copied(t, from, to, r.Lo), copied(t, from, to, r.Hi)
	e.At = found(t, to, r)
	return e
}

func TestFirstErrors(t *testing.T) { // P18.1, P18.2, R2: a nil store or order ahead of an order of other variables, that ahead of no form, that ahead of all else; without room, too
	for _, n := range []int{0, 1, 3, 16} {
		for _, room := range []int{0, 50} {
			s, own := made(t, n, room), inOrder(t, n)
			for _, f := range append(noForms(), forms...) {
				noCall(t, nil, nil, f, api.Nil)
				noCall(t, nil, own, f, api.Nil)
				noCall(t, s, nil, f, api.Nil)
				for m := range api.MaxVars + 1 {
					if m != n && (f < 8 || f == 255) {
						noCall(t, s, inOrder(t, m), f, api.Arg)
					}
				}
				if !node.IsForm(f) {
					noCall(t, s, own, f, api.Shape)
				}
			}
			if s.Len() != 0 {
				t.Fatalf("%d nodes", s.Len())
			}
		}
	}
}

func TestFirstErrorsFull(t *testing.T) { // P18.1, P18.2, R2: what is wrong ahead of what there is no room for
	s := mixed(t, 0)
	old, o := records(s), ordered(t, 1, 0, 3, 2)
	noCall(t, s, ordered(t, 0, 1, 2), api.BDD, api.Arg)
	noCall(t, s, ordered(t, 0, 1, 2, 3, 4), 0, api.Arg)
	noCall(t, s, o, 6, api.Shape)
	for _, f := range forms {
		for _, u := range wrongSets() {
			e, err := Of(s, o, f, u)
			none(t, "Of", e, err, api.Arg)
		}
		e, err := Var(s, o, f, 4)
		none(t, "Var", e, err, api.Var)
		e, err = Cube(s, o, f, api.Cube{Ones: 16, Noughts: 16})
		none(t, "Cube", e, err, api.Var)
		e, err = Cube(s, o, f, api.Cube{Ones: 9, Noughts: 24})
		none(t, "Cube", e, err, api.Var)
		e, err = Cube(s, o, f, api.Cube{Ones: 9, Noughts: 8})
		none(t, "Cube", e, err, api.Arg)
		e, err = Cube(s, o, f, api.Cube{Ones: 15})
		none(t, "Cube", e, err, api.Full)
		e, err = Of(s, o, f, setOf("0110100110010110"))
		none(t, "Of", e, err, api.Full)
		e, err = Const(s, o, f, false)
		none(t, "Const", e, err, api.OK)
	}
	sameNodes(t, s, old)
}

func TestNoVariables(t *testing.T) { // P18.1 to P18.3: a store for no variable, one that New didn't make, and orders likewise
	for _, s := range []*store.Store{made(t, 0, 3), made(t, 0, 0), {}} {
		for _, o := range []*order.Order{inOrder(t, 0), {}} {
			for _, f := range forms {
				one := at(0, 1)
				if e := of1(t, s, o, f, "0"); e != nothing {
					t.Errorf("as %d: nothing is %v", f, e)
				}
				if e := of1(t, s, o, f, "1"); e != one || const1(t, s, o, f, true) != one || cube1(t, s, o, f, 0, 0) != one {
					t.Errorf("as %d: one is %v", f, e)
				}
				if e := const1(t, s, o, f, false); e != nothing {
					t.Errorf("as %d: nothing is %v", f, e)
				}
				diagramIs(t, s, o, f, nothing, "0")
				diagramIs(t, s, o, f, one, "1")
				noEdge(t, s, o, f, at(1, 1), api.Arg)
				noEdge(t, s, o, f, at(0, 2), api.Arg)
				e, err := Var(s, o, f, 0)
				none(t, "Var", e, err, api.Var)
				e, err = Cube(s, o, f, api.Cube{Ones: 1, Noughts: 1})
				none(t, "Cube", e, err, api.Var)
				e, err = Of(s, o, f, setOf("01"))
				none(t, "Of", e, err, api.Arg)
			}
			if s.Len() != 0 {
				t.Errorf("%d nodes", s.Len())
			}
		}
	}
}

func TestSixteen(t *testing.T) { // P18.1 to P18.3: sixteen variables, under a drawn order: nothing, all, at least one that is 1, noughts alone, each variable, a cube, drawn sets
	r := rand.New(rand.NewSource(1816))
	o := drawnOrder(t, r, 16)
	some := "0" + strings.Repeat("1", 1<<16-1)
	few, many := []byte(zeros(1<<16)), make([]byte, 1<<16)
	for range 40 {
		few[r.Intn(1<<16)] = '1'
	}
	for x := range many {
		many[x] = '0' + byte(r.Intn(2))
	}
	sizes := map[api.Form][3]int{api.BDD: {0, 16, 16}, api.ZDD: {16, 31, 0}, api.CBDD: {0, 1, 1}, api.CZDD: {1, 31, 0}, api.TBDD: {0, 16, 0}}
	for _, f := range forms {
		s := made(t, 16, api.MaxRoom)
		ones, noughts := uint16(0b1000000000010010), uint16(0b0100001000000001)
		for i, c := range []struct {
			byVars string
			told   api.Edge
		}{
			{strings.Repeat("1", 1<<16), const1(t, s, o, f, true)},
			{some, of1(t, s, o, f, some)},
			{padded("1", 1<<16), cube1(t, s, o, f, 0, math.MaxUint16)},
			{zeros(1 << 16), const1(t, s, o, f, false)},
			{cubeTable(16, 1<<15, 0), var1(t, s, o, f, 15)},
			{cubeTable(16, 1, 0), var1(t, s, o, f, 0)},
			{cubeTable(16, ones, noughts), cube1(t, s, o, f, ones, noughts)},
			{cubeTable(16, math.MaxUint16, 0), cube1(t, s, o, f, math.MaxUint16, 0)},
			{string(few), of1(t, s, o, f, string(few))},
			{string(many), of1(t, s, o, f, string(many))},
		} {
			diagramIs(t, s, o, f, c.told, c.byVars)
			if again := of1(t, s, o, f, c.byVars); again != c.told {
				t.Errorf("as %d: %v, then %v", f, c.told, again)
			}
			if i < 3 && sizeOf(t, s, f, c.told) != sizes[f][i] {
				t.Errorf("as %d: %d nodes, wanted %d", f, sizeOf(t, s, f, c.told), sizes[f][i])
			}
		}
		for _, v := range []int{1, 8, 14} {
			diagramIs(t, s, o, f, var1(t, s, o, f, v), cubeTable(16, 1<<v, 0))
		}
		e, err := Var(s, o, f, 16)
		none(t, "Var", e, err, api.Var)
	}
}

func TestKept(t *testing.T) { // R4: what is handed in stays as it is, and what is told is the caller's
	r := rand.New(rand.NewSource(188))
	for _, n := range []int{0, 3, 6, 8} {
		s, o := made(t, n, api.MaxRoom), drawnOrder(t, r, n)
		before := o.Copy()
		for range 10 {
			byVars := draw(r, n)
			for _, f := range forms {
				u := setOf(byVars)
				e, err := Of(s, o, f, u)
				if err != api.OK || tableOf(u) != byVars || u.Vars != n || !o.Same(before) {
					t.Fatalf("Of: %v, %v, of %v, under %v", e, err, u, o.Perm())
				}
				// Changed behind the call: the diagram isn't.
				for i := range u.Words {
					u.Words[i] = ^u.Words[i]
				}
				got, _ := Set(s, o, f, e)
				for i := range got.Words {
					got.Words[i] = 5
				}
				diagramIs(t, s, o, f, e, byVars)
				c := api.Cube{Ones: uint16(1<<n-1) & 5, Noughts: uint16(1<<n-1) & 2}
				if _, err := Cube(s, o, f, c); err != api.OK || !o.Same(before) {
					t.Fatalf("Cube: %v, under %v", err, o.Perm())
				}
			}
		}
	}
}

func TestOrderChanged(t *testing.T) { // R6: an order that is changed between calls counts as it is at each
	s, o := made(t, 3, 100), inOrder(t, 3)
	for _, f := range forms {
		e := var1(t, s, o, f, 0)
		if err := o.Swap(0); err != api.OK {
			t.Fatal(err)
		}
		diagramIs(t, s, o, f, e, cubeTable(3, 1<<1, 0))
		if e != var1(t, s, o, f, 1) || e == var1(t, s, o, f, 0) {
			t.Errorf("as %d: %v", f, e)
		}
		if err := o.Swap(0); err != api.OK {
			t.Fatal(err)
		}
	}
}

func TestNothingPanics(t *testing.T) { // R1, R2, R6: drawn arguments of any kind, held against the first error that holds, and the same again
	r := rand.New(rand.NewSource(189))
	stores := []*store.Store{nil, {}, made(t, 0, 3), everything(t, 2, 0), mixed(t, 0), mixed(t, 40), made(t, 5, 0), made(t, 5, 9)}
	list := []*order.Order{nil, {}, inOrder(t, 0), ordered(t, 1, 0), ordered(t, 2, 0, 1, 3), ordered(t, 4, 0, 1, 3, 2), inOrder(t, 16)}
	for range 40000 {
		s, o := stores[r.Intn(len(stores))], list[r.Intn(len(list))]
		if r.Intn(4) > 0 {
			o = map[int]*order.Order{0: list[2], 2: list[3], 4: list[4], 5: list[5]}[s.Vars()]
		}
		f := api.Form(r.Intn(256) >> r.Intn(7))
		want := first(s, o, f)
		ofTwice(t, r, s, o, f, want)
		edgeTwice(t, r, s, o, f, want)
		cubeTwice(t, r, s, o, f, want)
	}
}

// first: the error that holds of a store, an order and a form.
func first(s *store.Store, o *order.Order, f api.Form) api.Err {
	switch {
	case s == nil || o == nil:
		return api.Nil
	case o.Vars() != s.Vars():
		return api.Arg
	case f < 1 || f > 5:
		return api.Shape
	}
	return api.OK
}

// ends: numbers, some of them at their ends.
func ends(r *rand.Rand) int {
	return []int{-1, 0, 1, 2, 4, 5, 15, 16, 31, 32, math.MaxInt, math.MinInt, r.Intn(40)}[r.Intn(13)]
}

// told: is an answer as it must be, the first time and the second, beside so many nodes that there were?
func told(t *testing.T, s *store.Store, size int, want api.Err, e, again api.Edge, err, same api.Err) {
	t.Helper()
	if e != again || err != same || err != api.OK && e != nothing {
		t.Fatalf("%v, %v, then %v, %v", e, err, again, same)
	}
	if want != api.OK && (err != want || s.Len() != size) || want == api.OK && err != api.OK && err != api.Full {
		t.Fatalf("%v, %v, wanted %v; %d nodes, were %d", e, err, want, s.Len(), size)
	}
}

// ofTwice: Of and Const.
func ofTwice(t *testing.T, r *rand.Rand, s *store.Store, o *order.Order, f api.Form, want api.Err) {
	t.Helper()
	u := api.Set{Vars: ends(r), Words: make([]uint64, r.Intn(4))}
	for i := range u.Words {
		u.Words[i] = r.Uint64() >> r.Intn(64)
	}
	if r.Intn(2) == 0 {
		u = setOf(draw(r, s.Vars()))
	}
	size := s.Len()
	all := r.Intn(2) == 0
	e, err := Const(s, o, f, all)
	again, same := Const(s, o, f, all)
	told(t, s, size, want, e, again, err, same)
	size = s.Len()
	if want == api.OK && (!set.Right(u) || u.Vars != s.Vars()) {
		want = api.Arg
	}
	e, err = Of(s, o, f, u)
	again, same = Of(s, o, f, u)
	told(t, s, size, want, e, again, err, same)
}

// edgeTwice: Set and Has.
func edgeTwice(t *testing.T, r *rand.Rand, s *store.Store, o *order.Order, f api.Form, want api.Err) {
	t.Helper()
	e, x := at(r.Intn(256)>>r.Intn(9), r.Uint32()>>r.Intn(33)), ends(r)
	if want == api.OK && !s.Leads(f, e, 0) {
		want = api.Arg
	}
	size := s.Len()
	u, err := Set(s, o, f, e)
	if again, same := Set(s, o, f, e); !set.Same(u, again) || err != want || same != want || err != api.OK && (u.Vars != 0 || len(u.Words) != 0) {
		t.Fatalf("Set(%d, %v): %v, %v, then %v, %v, wanted %v", f, e, u, err, again, same, want)
	}
	if want == api.OK && (x < 0 || x >= 1<<s.Vars()) {
		want = api.Arg
	}
	in, err := Has(s, o, f, e, x)
	if again, same := Has(s, o, f, e, x); in != again || err != want || same != want || in && err != api.OK || in != set.Has(u, x) {
		t.Fatalf("Has(%d, %v, %d): %v, %v, then %v, %v, wanted %v", f, e, x, in, err, again, same, want)
	}
	if s.Len() != size {
		t.Fatalf("%d nodes, were %d", s.Len(), size)
	}
}

// cubeTwice: Var and Cube.
func cubeTwice(t *testing.T, r *rand.Rand, s *store.Store, o *order.Order, f api.Form, want api.Err) {
	t.Helper()
	v, c := ends(r), api.Cube{Ones: uint16(r.Uint32()) >> r.Intn(17), Noughts: uint16(r.Uint32()) >> r.Intn(17)}
	if r.Intn(2) == 0 {
		c.Noughts &^= c.Ones
	}
	ofVar, ofCube, n := want, want, s.Vars()
	if want == api.OK && (v < 0 || v >= n) {
		ofVar = api.Var
	}
	if want == api.OK && int(c.Ones|c.Noughts) >= 1<<n {
		ofCube = api.Var
	} else if want == api.OK && c.Ones&c.Noughts != 0 {
		ofCube = api.Arg
	}
	size := s.Len()
	e, err := Var(s, o, f, v)
	again, same := Var(s, o, f, v)
	told(t, s, size, ofVar, e, again, err, same)
	size = s.Len()
	e, err = Cube(s, o, f, c)
	again, same = Cube(s, o, f, c)
	told(t, s, size, ofCube, e, again, err, same)
}
