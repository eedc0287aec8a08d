package apply

import (
	"math"
	"math/rand"
	"strings"
	"testing"

	"ramage/api"
	"ramage/canon"
	"ramage/node"
	"ramage/store"
)

var nothing = api.Edge{}

var forms = []api.Form{api.BDD, api.ZDD, api.CBDD, api.CZDD, api.TBDD}

// edges: the three that an operation is done with.
type edges [3]api.Edge

// at: an edge with a tag.
func at(tag int, id uint32) api.Edge { return api.Edge{Tag: uint8(tag), At: id} }

// tagged: an edge of a form to an id, that may stand at a level from 0 to the one that is told; of a TBDD that is its tag.
func tagged(f api.Form, id uint32, tag int) api.Edge {
	if f == api.TBDD {
		return at(tag, id)
	}
	return at(0, id)
}

// made: a store.
func made(t *testing.T, n, room int) *store.Store {
	t.Helper()
	s, err := store.New(n, room)
	if err != api.OK || s == nil {
		t.Fatalf("store.New(%d, %d): %v", n, room, err)
	}
	return s
}

// engine of a store.
func engine(t *testing.T, s *store.Store, bits int) *Ops {
	t.Helper()
	o, err := New(s, bits)
	if err != api.OK || o == nil {
		t.Fatalf("New(%d): %v", bits, err)
	}
	return o
}

// found: the id of the node of a record that may be.
func found(t *testing.T, s *store.Store, r api.Record) uint32 {
	t.Helper()
	id, err := s.Find(r)
	if err != api.OK {
		t.Fatalf("Find(%v): %v", r, err)
	}
	return id
}

// zeros: so many.
func zeros(size int) string { return strings.Repeat("0", size) }

// ones: likewise.
func ones(size int) string { return strings.Repeat("1", size) }

// padded: a table as the first ones of a greater table, whose others are 0.
func padded(table string, size int) string { return table + zeros(size-len(table)) }

// meaning: what an edge means, as the Words of its form's chapter tell it: a text of 0 and 1, one of these for each assignment of the levels from l on, the level l as its highest bit.
func meaning(s *store.Store, f api.Form, e api.Edge, l int) string {
	size := 1 << (s.Vars() - l)
	if e.At == 0 {
		return zeros(size)
	}
	part := "1"
	if e.At > 1 {
		r, _ := s.Get(e.At)
		part = meaningOfNode(s, r)
	}
	switch f {
	case api.BDD, api.CBDD:
		return strings.Repeat(part, size/len(part))
	case api.ZDD, api.CZDD:
		return padded(part, size)
	}
	below := 1 << (s.Vars() - int(e.Tag))
	return strings.Repeat(padded(part, below), size/below)
}

// meaningOfNode: likewise, at its Top.
func meaningOfNode(s *store.Store, r api.Record) string {
	below := int(r.Bot) + 1
	lo, hi := meaning(s, r.Form, r.Lo, below), meaning(s, r.Form, r.Hi, below)
	rows := 1 << (below - int(r.Top))
	if r.Form == api.CBDD {
		return lo + strings.Repeat(hi, rows-1)
	}
	return strings.Repeat(lo+hi, rows/2)
}

// meanings of three edges.
func meanings(s *store.Store, f api.Form, e edges, l int) [3]string {
	return [3]string{meaning(s, f, e[0], l), meaning(s, f, e[1], l), meaning(s, f, e[2], l)}
}

// table of a number's lowest bits.
func table(x uint64, size int) string {
	b := make([]byte, size)
	for i := range b {
		b[i] = '0' + byte(x>>i&1)
	}
	return string(b)
}

// byTwo: what an operation of two tells of each place of two tables, as the chapter's Words have it.
func byTwo(op int, a, b string) string {
	told := make([]byte, len(a))
	for x := range told {
		told[x] = '0' + byte(op>>(2*(a[x]-'0')+(b[x]-'0'))&1)
	}
	return string(told)
}

// byThree: likewise, an operation of three.
func byThree(op int, m [3]string) string {
	told := make([]byte, len(m[0]))
	for x := range told {
		told[x] = '0' + byte(op>>(4*(m[0][x]-'0')+2*(m[1][x]-'0')+(m[2][x]-'0'))&1)
	}
	return string(told)
}

// draw a table of so many variables: some even, some sparse, some dense, some made of few parts, some in which variables play no part, some in which they are 0.
func draw(r *rand.Rand, n int) string {
	kind := r.Intn(8)
	if kind == 3 && n > 2 {
		parts := []string{draw(r, n-2), draw(r, n-2), zeros(1 << (n - 2))}
		var b strings.Builder
		for range 4 {
			b.WriteString(parts[r.Intn(3)])
		}
		return b.String()
	}
	if kind == 4 && n > 0 {
		length := 1 + r.Intn(n)
		return strings.Repeat(draw(r, n-length), 1<<length)
	}
	if kind > 4 && kind < 7 && n > 0 {
		return padded(draw(r, n-1-r.Intn((n+1)/2)), 1<<n)
	}
	if kind == 7 && n > 0 {
		return draw(r, n-1) + ones(1<<(n-1))
	}
	limit := []int{4, 1, 7, 4, 4, 4, 4, 4}[kind]
	b := make([]byte, 1<<n)
	for i := range b {
		b[i] = '0'
		if r.Intn(8) < limit {
			b[i] = '1'
		}
	}
	return string(b)
}

// drawn: three tables, some of them the same.
func drawn(r *rand.Rand, n int) [3]string {
	m := [3]string{draw(r, n), draw(r, n), draw(r, n)}
	if r.Intn(6) == 0 {
		m[r.Intn(3)] = m[r.Intn(3)]
	}
	return m
}

// right: the right edge of a table at the level that its length tells.
func right(t *testing.T, s *store.Store, f api.Form, byLevels string) api.Edge {
	t.Helper()
	edges := map[string]api.Edge{"0": nothing, "1": node.One(f, s.Vars())}
	var of func(table string, l int) api.Edge
	of = func(table string, l int) api.Edge {
		e, ok := edges[table]
		if ok {
			return e
		}
		half := len(table) / 2
		lo, hi := of(table[:half], l+1), of(table[half:], l+1)
		e, err := canon.Make(s, f, l, lo, hi)
		if err != api.OK {
			t.Fatalf("canon.Make: %v", err)
		}
		edges[table] = e
		return e
	}
	return of(byLevels, levelOf(s, byLevels))
}

// levelOf a table: that at which what it tells stands.
func levelOf(s *store.Store, byLevels string) int {
	l := s.Vars()
	for size := 1; size < len(byLevels); size *= 2 {
		l--
	}
	return l
}

// right3: of three tables.
func right3(t *testing.T, s *store.Store, f api.Form, m [3]string) edges {
	t.Helper()
	return edges{right(t, s, f, m[0]), right(t, s, f, m[1]), right(t, s, f, m[2])}
}

// records of all nodes, by ids.
func records(s *store.Store) map[uint32]api.Record {
	all := map[uint32]api.Record{}
	for id := range s.Ids() {
		r, _ := s.Get(id)
		all[id] = r
	}
	return all
}

// sameNodes: has a store just these nodes?
func sameNodes(t *testing.T, s *store.Store, want map[uint32]api.Record) {
	t.Helper()
	if s.Len() != len(want) {
		t.Fatalf("%d nodes, wanted %d", s.Len(), len(want))
	}
	stillThere(t, s, want)
}

// stillThere: has a store these nodes, whatever others it has?
func stillThere(t *testing.T, s *store.Store, want map[uint32]api.Record) {
	t.Helper()
	for id, r := range want {
		if now, ok := s.Get(id); !ok || now != r {
			t.Fatalf("node %d is %v, wanted %v", id, now, r)
		}
	}
}

// leading: all edges of a form that lead at a level.
func leading(s *store.Store, f api.Form, l int) []api.Edge {
	list := []api.Edge{nothing}
	for id := range uint32(s.Len() + 2) {
		for tag := range s.Vars() + 1 {
			if id > 0 && s.Leads(f, at(tag, id), l) {
				list = append(list, at(tag, id))
			}
		}
	}
	return list
}

// anyOf some edges: three of them, drawn.
func anyOf(r *rand.Rand, list []api.Edge) edges {
	return edges{list[r.Intn(len(list))], list[r.Intn(len(list))], list[r.Intn(len(list))]}
}

// everything: all nodes of all forms that may be of n variables, right and cut ones, in a store with room for some more.
func everything(t *testing.T, n, more int) *store.Store {
	t.Helper()
	s := made(t, n, []int{0, 10, 82, 1958}[n]+more)
	for bot := n - 1; bot >= 0; bot-- {
		for _, f := range forms {
			below := leading(s, f, bot+1)
			for _, lo := range below {
				for _, hi := range below {
					for top := bot; top >= 0; top-- {
						r := api.Record{Form: f, Top: uint8(top), Bot: uint8(bot), Lo: lo, Hi: hi}
						if node.Right(r, n) {
							found(t, s, r)
						}
					}
				}
			}
		}
	}
	if s.Len() != s.Room()-more {
		t.Fatalf("%d nodes, wanted %d", s.Len(), s.Room()-more)
	}
	return s
}

// mixed: all forms in one store of 4 variables, right and cut diagrams side by side, with room for some more nodes.
func mixed(t *testing.T, more int) *store.Store {
	t.Helper()
	s := made(t, 4, 20+more)
	one := at(0, 1)
	for _, f := range forms {
		low := found(t, s, api.Record{Form: f, Top: 3, Bot: 3, Hi: tagged(f, 1, 4)})
		middle := found(t, s, api.Record{Form: f, Top: 1, Bot: 1, Lo: tagged(f, low, 2), Hi: tagged(f, 1, 2)})
		found(t, s, api.Record{Form: f, Top: 0, Bot: 0, Lo: tagged(f, middle, 1), Hi: tagged(f, low, 3)})
	}
	// Chains of three levels, and ones that are cut in two.
	any3 := found(t, s, api.Record{Form: api.CBDD, Top: 1, Bot: 3, Hi: one})
	found(t, s, api.Record{Form: api.CBDD, Top: 0, Bot: 0, Lo: at(0, any3), Hi: one})
	free3 := found(t, s, api.Record{Form: api.CZDD, Top: 1, Bot: 3, Hi: one})
	found(t, s, api.Record{Form: api.CZDD, Top: 0, Bot: 0, Lo: at(0, free3), Hi: at(0, free3)})
	// A node that a tag alone would tell.
	low, _ := s.Has(api.Record{Form: api.TBDD, Top: 3, Bot: 3, Hi: at(4, 1)})
	found(t, s, api.Record{Form: api.TBDD, Top: 2, Bot: 2, Lo: at(3, low)})
	if s.Len() != 20 {
		t.Fatalf("%d nodes", s.Len())
	}
	return s
}

// copied: an edge's nodes in another store.
func copied(t *testing.T, from, to *store.Store, e api.Edge) api.Edge {
	t.Helper()
	r, ok := from.Get(e.At)
	if !ok {
		return e
	}
	r.Lo, r.Hi = copied(t, from, to, r.Lo), copied(t, from, to, r.Hi)
	e.At = found(t, to, r)
	return e
}

// means: does an edge lead at a level, and mean this there?
func means(t *testing.T, what string, s *store.Store, f api.Form, e api.Edge, l int, want string) {
	t.Helper()
	if !s.Leads(f, e, l) {
		t.Fatalf("%s as %d: %v doesn't lead at %d", what, f, e, l)
	}
	if got := meaning(s, f, e, l); got != want {
		t.Fatalf("%s as %d at %d: %v means %s, wanted %s", what, f, l, e, got, want)
	}
}

// isRight: does an edge mean this, and is it right?
func isRight(t *testing.T, what string, s *store.Store, f api.Form, e api.Edge, l int, want string) {
	t.Helper()
	means(t, what, s, f, e, l, want)
	if !canon.Right(s, f, e, l) {
		t.Fatalf("%s as %d at %d: %v isn't right", what, f, l, e)
	}
}

// apply2: Apply, where it must tell an edge.
func apply2(t *testing.T, o *Ops, f api.Form, op int, a, b api.Edge) api.Edge {
	t.Helper()
	e, err := o.Apply(f, op, a, b)
	if err != api.OK {
		t.Fatalf("Apply(%d, %d, %v, %v): %v", f, op, a, b, err)
	}
	return e
}

// apply3: Apply3, likewise.
func apply3(t *testing.T, o *Ops, f api.Form, op int, e edges) api.Edge {
	t.Helper()
	told, err := o.Apply3(f, op, e[0], e[1], e[2])
	if err != api.OK {
		t.Fatalf("Apply3(%d, %d, %v): %v", f, op, e, err)
	}
	return told
}

// applyAt: At, likewise.
func applyAt(t *testing.T, o *Ops, f api.Form, op, l int, e edges) api.Edge {
	t.Helper()
	told, err := o.At(f, op, l, e[0], e[1], e[2])
	if err != api.OK {
		t.Fatalf("At(%d, %d, %d, %v): %v", f, op, l, e, err)
	}
	return told
}

// not1: Not, likewise.
func not1(t *testing.T, o *Ops, f api.Form, a api.Edge) api.Edge {
	t.Helper()
	e, err := o.Not(f, a)
	if err != api.OK {
		t.Fatalf("Not(%d, %v): %v", f, a, err)
	}
	return e
}

// ite1: Ite, likewise.
func ite1(t *testing.T, o *Ops, f api.Form, a, b, c api.Edge) api.Edge {
	t.Helper()
	e, err := o.Ite(f, a, b, c)
	if err != api.OK {
		t.Fatalf("Ite(%d, %v, %v, %v): %v", f, a, b, c, err)
	}
	return e
}

// none: no edge, and this error.
func none(t *testing.T, what string, e api.Edge, err, want api.Err) {
	t.Helper()
	if e != nothing || err != want {
		t.Fatalf("%s: %v, %v, wanted %v", what, e, err, want)
	}
}

// noForms: what is no form.
func noForms() []api.Form {
	list := []api.Form{0}
	for f := 6; f < 256; f++ {
		list = append(list, api.Form(f))
	}
	return list
}

// noOps: what is no operation of two, or (256) of three.
func noOps(ops int) []int {
	return []int{-1, -2, -ops, ops, ops + 1, 2 * ops, 1 << 16, 1 << 32, 1<<32 + 1, math.MaxInt, math.MaxInt - 1, math.MinInt, math.MinInt + 1, -1 << 32}
}

// noLevels: what is no level of n.
func noLevels(n int) []int {
	return []int{-1, -2, n + 1, n + 2, 17, 256, 256 + n, 1 << 16, 1 << 32, math.MaxInt, math.MaxInt - 1, math.MinInt, math.MinInt + 1, -1 << 32}
}

func TestExample(t *testing.T) { // P19.2: the chapter's example, and likewise in stores of each size
	for n := range api.MaxVars + 1 {
		s := made(t, n, 0)
		o := engine(t, s, 4)
		if e, err := o.Apply(api.ZDD, 14, nothing, at(0, 1)); e != at(0, 1) || err != api.OK {
			t.Errorf("n %d: %v, %v", n, e, err)
		}
		if e, err := o.Apply(api.ZDD, 14, at(0, 1), nothing); e != at(0, 1) || err != api.OK {
			t.Errorf("n %d: %v, %v", n, e, err)
		}
	}
}

func TestNew(t *testing.T) { // P19.1: bits that can't be, a nil store, the store itself; R2: Nil ahead of Arg
	wrong := []int{-1, -2, 21, 22, 64, 1 << 20, 1 << 32, math.MaxInt, math.MinInt}
	for _, s := range []*store.Store{made(t, 3, 9), made(t, 0, 0), {}} {
		for bits := range 21 {
			o, err := New(s, bits)
			if err != api.OK || o == nil || o.Store() != s {
				t.Fatalf("New(%d): %v", bits, err)
			}
			if e, err := o.Apply(api.BDD, 14, nothing, node.One(api.BDD, s.Vars())); e != at(0, 1) || err != api.OK {
				t.Errorf("bits %d: %v, %v", bits, e, err)
			}
		}
		for _, bits := range wrong {
			if o, err := New(s, bits); err != api.Arg || o != nil {
				t.Errorf("New(%d): %v, %v", bits, o, err)
			}
		}
	}
	for _, bits := range append(wrong, 0, 1, 20) {
		if o, err := New(nil, bits); err != api.Nil || o != nil {
			t.Errorf("New(nil, %d): %v, %v", bits, o, err)
		}
	}
}

func TestNilEngine(t *testing.T) { // P19.1 to P19.3: no store, Nil ahead of whatever else is wrong, nothing is done; of one that New didn't make likewise
	for _, o := range []*Ops{nil, {}} {
		if o.Store() != nil {
			t.Errorf("a store")
		}
		o.Forget()
		for _, f := range []api.Form{0, 1, 2, 3, 4, 5, 6, 255} {
			for _, x := range []int{-1, 0, 1, 14, 15, 16, 255, 256, math.MaxInt, math.MinInt} {
				for _, e := range []api.Edge{nothing, at(0, 1), at(0, 2), at(255, math.MaxUint32)} {
					noCall(t, o, f, x, x, edges{e, nothing, e}, api.Nil)
				}
			}
		}
		o.Forget()
	}
}

// noCall: each of the calls, where they must all tell one error, and make no node.
func noCall(t *testing.T, o *Ops, f api.Form, op, l int, e edges, want api.Err) {
	t.Helper()
	size := o.Store().Len()
	told, err := o.Apply(f, op, e[0], e[1])
	none(t, "Apply", told, err, want)
	told, err = o.Apply3(f, op, e[0], e[1], e[2])
	none(t, "Apply3", told, err, want)
	told, err = o.At(f, op, l, e[0], e[1], e[2])
	none(t, "At", told, err, want)
	told, err = o.Not(f, e[0])
	none(t, "Not", told, err, want)
	told, err = o.Ite(f, e[0], e[1], e[2])
	none(t, "Ite", told, err, want)
	if o.Store().Len() != size {
		t.Fatalf("%d nodes, were %d", o.Store().Len(), size)
	}
}

func TestApplyEach(t *testing.T) { // P19.2: each of the 16 operations of each two sets of up to two levels, of some of three, as each form: what it means, that it is right, and which edge it is
	r := rand.New(rand.NewSource(191))
	for n := range 4 {
		s := made(t, n, 5000)
		o := engine(t, s, 9)
		for _, f := range forms {
			var sets []string
			for x := range uint64(1) << (1 << n) {
				if n < 3 || r.Intn(9) == 0 {
					sets = append(sets, table(x, 1<<n))
				}
			}
			for _, a := range sets {
				for _, b := range sets {
					ea, eb := right(t, s, f, a), right(t, s, f, b)
					for op := range 16 {
						e, want := apply2(t, o, f, op, ea, eb), byTwo(op, a, b)
						isRight(t, "Apply", s, f, e, 0, want)
						if e != right(t, s, f, want) {
							t.Fatalf("Apply(%d, %d, %s, %s) is %v", f, op, a, b, e)
						}
					}
				}
			}
		}
	}
}

func TestApplyDrawn(t *testing.T) { // P19.2: the 16 operations of drawn sets of up to nine levels, all forms in one store; nodes that there were stay, and what edges mean
	r := rand.New(rand.NewSource(192))
	for n := range 10 {
		s := made(t, n, api.MaxRoom)
		o := engine(t, s, n)
		for range 6 {
			a, b := draw(r, n), draw(r, n)
			for _, f := range forms {
				ea, eb := right(t, s, f, a), right(t, s, f, b)
				old := records(s)
				for op := range 16 {
					isRight(t, "Apply", s, f, apply2(t, o, f, op, ea, eb), 0, byTwo(op, a, b))
				}
				stillThere(t, s, old)
				means(t, "the first", s, f, ea, 0, a)
				means(t, "the second", s, f, eb, 0, b)
			}
		}
	}
}

func TestApply3Each(t *testing.T) { // P19.3: all 256 operations of each three sets of up to one level, and of drawn ones of up to seven, as each form
	for n := range 2 {
		s := made(t, n, 200)
		o := engine(t, s, 7)
		for _, f := range forms {
			sets := uint64(1) << (1 << n)
			for x := range sets * sets * sets {
				apply3All(t, o, f, [3]string{table(x%sets, 1<<n), table(x/sets%sets, 1<<n), table(x/sets/sets, 1<<n)})
			}
		}
	}
	r := rand.New(rand.NewSource(193))
	for n := 2; n < 8; n++ {
		s := made(t, n, api.MaxRoom)
		o := engine(t, s, 10)
		for range 14 - n {
			m := drawn(r, n)
			for _, f := range forms {
				apply3All(t, o, f, m)
			}
		}
	}
}

// apply3All: all operations of three.
func apply3All(t *testing.T, o *Ops, f api.Form, m [3]string) {
	t.Helper()
	s := o.Store()
	e := right3(t, s, f, m)
	for op := range 256 {
		told, want := apply3(t, o, f, op, e), byThree(op, m)
		isRight(t, "Apply3", s, f, told, 0, want)
		if told != right(t, s, f, want) {
			t.Fatalf("Apply3(%d, %d, %v) is %v", f, op, m, told)
		}
	}
}

func TestApply3OfTwo(t *testing.T) { // P19.3: drawn operations of each three sets of two levels, as each form
	r := rand.New(rand.NewSource(194))
	s := made(t, 2, 500)
	o := engine(t, s, 12)
	for _, f := range forms {
		for x := range uint64(1 << 12) {
			m := [3]string{table(x%16, 4), table(x/16%16, 4), table(x/256, 4)}
			e := right3(t, s, f, m)
			for range 12 {
				op := r.Intn(256)
				told, want := apply3(t, o, f, op, e), byThree(op, m)
				isRight(t, "Apply3", s, f, told, 0, want)
				if told != right(t, s, f, want) {
					t.Fatalf("Apply3(%d, %d, %v) is %v", f, op, m, told)
				}
			}
		}
	}
}

func TestAt(t *testing.T) { // P19.3: at each level of up to seven, the level n, too: right edges of drawn sets of the levels from there on
	r := rand.New(rand.NewSource(195))
	for n := range 8 {
		s := made(t, n, api.MaxRoom)
		o := engine(t, s, 8)
		for l := range n + 1 {
			for range 8 {
				m := drawn(r, n-l)
				for _, f := range forms {
					e := right3(t, s, f, m)
					for range 40 {
						op := r.Intn(256)
						told, want := applyAt(t, o, f, op, l, e), byThree(op, m)
						isRight(t, "At", s, f, told, l, want)
						if told != right(t, s, f, want) {
							t.Fatalf("At(%d, %d, %d, %v) is %v", f, op, l, m, told)
						}
					}
				}
			}
		}
	}
}

func TestAtOneEdge(t *testing.T) { // P19.3: what an edge means hangs on the level at which it stands: the same edges at each level at which they lead
	r := rand.New(rand.NewSource(1950))
	for n := 1; n < 7; n++ {
		s := made(t, n, api.MaxRoom)
		o := engine(t, s, 20)
		for _, f := range forms {
			for range 20 {
				low := r.Intn(n + 1)
				e := right3(t, s, f, drawn(r, n-low))
				op := r.Intn(256)
				for l := range low + 1 {
					want := byThree(op, meanings(s, f, e, l))
					isRight(t, "At", s, f, applyAt(t, o, f, op, l, e), l, want)
				}
			}
		}
	}
}

func TestAtTheEnd(t *testing.T) { // P19.3: at the level n, of nothing and one, all operations, without room for a node
	for n := range api.MaxVars + 1 {
		s := made(t, n, 0)
		o := engine(t, s, 0)
		for _, f := range forms {
			ends := [2]api.Edge{nothing, node.One(f, n)}
			for op := range 256 {
				for k := range 8 {
					e, err := o.At(f, op, n, ends[k>>2], ends[k>>1&1], ends[k&1])
					if e != ends[op>>k&1] || err != api.OK {
						t.Fatalf("n %d: At(%d, %d) of %03b: %v, %v", n, f, op, k, e, err)
					}
				}
			}
		}
	}
}

func TestNotAndIte(t *testing.T) { // P19.3: what they mean, and that they are Apply of 3 with nothing, and Apply3 of 202; Apply3 is At of the level 0
	r := rand.New(rand.NewSource(196))
	for n := range 9 {
		s := made(t, n, api.MaxRoom)
		o := engine(t, s, 5)
		for range 10 {
			m := drawn(r, n)
			for _, f := range forms {
				e := right3(t, s, f, m)
				not, ite := not1(t, o, f, e[0]), ite1(t, o, f, e[0], e[1], e[2])
				isRight(t, "Not", s, f, not, 0, strings.NewReplacer("0", "1", "1", "0").Replace(m[0]))
				chosen := []byte(m[2])
				for x := range chosen {
					if m[0][x] == '1' {
						chosen[x] = m[1][x]
					}
				}
				isRight(t, "Ite", s, f, ite, 0, string(chosen))
				if not != apply2(t, o, f, 3, e[0], nothing) || ite != apply3(t, o, f, 202, e) {
					t.Fatalf("as %d: Not is %v, Ite %v", f, not, ite)
				}
				op := r.Intn(256)
				if apply3(t, o, f, op, e) != applyAt(t, o, f, op, 0, e) {
					t.Fatalf("as %d: Apply3 of %d", f, op)
				}
			}
		}
	}
}

func TestEachEdge(t *testing.T) { // P19.2, P19.3: stores in which all nodes are that may be of up to two variables: each two edges that lead, right or not, each operation of two, each level; no node is lacking
	for n := range 3 {
		s := everything(t, n, 0)
		o := engine(t, s, 10)
		old := records(s)
		for _, f := range forms {
			for _, a := range leading(s, f, 0) {
				for _, b := range leading(s, f, 0) {
					ma, mb := meaning(s, f, a, 0), meaning(s, f, b, 0)
					for op := range 16 {
						means(t, "Apply", s, f, apply2(t, o, f, op, a, b), 0, byTwo(op, ma, mb))
					}
				}
			}
		}
		sameNodes(t, s, old)
	}
}

func TestAnyThreeEdges(t *testing.T) { // P19.3: likewise, drawn edges of up to three variables, operations of three, levels; and what is told of right edges is right beside cut ones
	r := rand.New(rand.NewSource(197))
	for n := 1; n < 4; n++ {
		s := everything(t, n, 0)
		o := engine(t, s, 11)
		for _, f := range forms {
			for l := range n + 1 {
				list := leading(s, f, l)
				for range 1500 {
					e, op := anyOf(r, list), r.Intn(256)
					told, want := applyAt(t, o, f, op, l, e), byThree(op, meanings(s, f, e, l))
					means(t, "At", s, f, told, l, want)
					if canon.Right(s, f, e[0], l) && canon.Right(s, f, e[1], l) && canon.Right(s, f, e[2], l) {
						isRight(t, "At", s, f, told, l, want)
					}
				}
			}
		}
	}
}

func TestCutEdges(t *testing.T) { // P19.2, P19.3: edges that aren't right, of four levels, and what was told of them again, in a store in which nodes must be made
	r := rand.New(rand.NewSource(198))
	s := mixed(t, 5000)
	o := engine(t, s, 6)
	for _, f := range forms {
		for range 400 {
			l := r.Intn(5)
			e, op := anyOf(r, leading(s, f, l)), r.Intn(256)
			old, m := records(s), meanings(s, f, e, l)
			told := applyAt(t, o, f, op, l, e)
			means(t, "At", s, f, told, l, byThree(op, m))
			stillThere(t, s, old)
			if meanings(s, f, e, l) != m {
				t.Fatalf("as %d: %v mean something else", f, e)
			}
		}
	}
}

func TestOneEdgeTwice(t *testing.T) { // P19.2, P19.3: one edge twice, and three times, right or not, as any of the three
	r := rand.New(rand.NewSource(199))
	for n := range 4 {
		s := everything(t, n, 0)
		o := engine(t, s, 3)
		for _, f := range forms {
			list := leading(s, f, 0)
			for range 150 {
				a, b := list[r.Intn(len(list))], list[r.Intn(len(list))]
				for _, e := range []edges{{a, a, b}, {a, b, a}, {b, a, a}, {a, a, a}, {a, a, nothing}, {nothing, a, a}, {a, nothing, a}} {
					op := r.Intn(256)
					means(t, "Apply3", s, f, apply3(t, o, f, op, e), 0, byThree(op, meanings(s, f, e, 0)))
				}
				for op := range 16 {
					m := meaning(s, f, a, 0)
					means(t, "Apply", s, f, apply2(t, o, f, op, a, a), 0, byTwo(op, m, m))
				}
			}
		}
	}
}

func TestEnds(t *testing.T) { // P19.2, P19.3: nothing and one among the edges, at each level; an edge to one doesn't mean the same in each form
	r := rand.New(rand.NewSource(1910))
	for n := range 6 {
		s := made(t, n, 5000)
		o := engine(t, s, 8)
		for _, f := range forms {
			for l := range n + 1 {
				list := []api.Edge{nothing, right(t, s, f, draw(r, n-l)), right(t, s, f, draw(r, n-l))}
				for tag := range n + 1 {
					if s.Leads(f, at(tag, 1), l) {
						list = append(list, at(tag, 1))
					}
				}
				for range 150 {
					e, op := anyOf(r, list), r.Intn(256)
					isRight(t, "At", s, f, applyAt(t, o, f, op, l, e), l, byThree(op, meanings(s, f, e, l)))
				}
			}
		}
	}
}

// asked: what may be asked of an engine again.
type asked struct {
	f     api.Form
	op, l int
	e     edges
}

// askable: drawn operations of edges of all forms and levels that lead, right and cut ones.
func askable(r *rand.Rand, s *store.Store, count int) []asked {
	var list []asked
	for range count {
		q := asked{f: forms[r.Intn(5)], op: r.Intn(256), l: r.Intn(s.Vars() + 1)}
		q.e = anyOf(r, leading(s, q.f, q.l))
		list = append(list, q)
		// The same edges, as far as they may be, with another operation, in another form, at another level.
		list = append(list, asked{q.f, r.Intn(256), q.l, q.e}, asked{q.f, q.op, q.l, edges{q.e[1], q.e[2], q.e[0]}})
		for _, f := range forms {
			l := r.Intn(s.Vars() + 1)
			if s.Leads(f, q.e[0], l) && s.Leads(f, q.e[1], l) && s.Leads(f, q.e[2], l) {
				list = append(list, asked{f, q.op, l, q.e})
			}
		}
	}
	return list
}

func TestKeptAnswers(t *testing.T) { // P19.1: engines of each number of bits, that are asked the same again and again, in turns: each is told what one without any kept answer is told
	r := rand.New(rand.NewSource(1911))
	stores := []*store.Store{everything(t, 2, 0), everything(t, 3, 0), mixed(t, 20000)}
	for _, s := range stores {
		list := askable(r, s, 60)
		var all []*Ops
		for _, bits := range []int{0, 1, 2, 3, 5, 8, 12, 20} {
			all = append(all, engine(t, s, bits))
		}
		for round := range 6 {
			for range 2 * len(list) {
				q := list[r.Intn(len(list))]
				o := all[r.Intn(len(all))]
				got := applyAt(t, o, q.f, q.op, q.l, q.e)
				if want := applyAt(t, engine(t, s, 0), q.f, q.op, q.l, q.e); got != want {
					t.Fatalf("At(%v): %v, wanted %v", q, got, want)
				}
				means(t, "At", s, q.f, got, q.l, byThree(q.op, meanings(s, q.f, q.e, q.l)))
			}
			if round%2 == 1 {
				all[r.Intn(len(all))].Forget()
			}
		}
	}
}

func TestAnswersOfRightEdges(t *testing.T) { // P19.1: likewise, right edges of more levels, where what is kept is made use of: Forget, again and again, and behind it the same answers
	r := rand.New(rand.NewSource(1912))
	s := made(t, 8, api.MaxRoom)
	var all []*Ops
	for _, bits := range []int{0, 4, 9, 16} {
		all = append(all, engine(t, s, bits))
	}
	for range 12 {
		m := drawn(r, 8)
		for _, f := range forms {
			e := right3(t, s, f, m)
			for range 10 {
				op := r.Intn(256)
				want := right(t, s, f, byThree(op, m))
				for _, o := range all {
					for range 3 {
						if got := apply3(t, o, f, op, e); got != want {
							t.Fatalf("Apply3(%d, %d, %v): %v, wanted %v", f, op, m, got, want)
						}
						if r.Intn(2) == 0 {
							o.Forget()
							o.Forget()
						}
					}
				}
			}
		}
	}
}

func TestAnswersAreKept(t *testing.T) { // P19.1: what was told is kept, so that it needn't be worked out again, till Forget
	r := rand.New(rand.NewSource(1913))
	s := made(t, 8, api.MaxRoom)
	for _, f := range forms {
		o := engine(t, s, 14)
		e := right3(t, s, f, [3]string{table(r.Uint64(), 256), table(r.Uint64(), 256), table(r.Uint64(), 256)})
		first := apply3(t, o, f, 150, e)
		misses := o.answers.Misses()
		if again := apply3(t, o, f, 150, e); again != first || o.answers.Misses() != misses {
			t.Errorf("as %d: %v, then %v; %d misses, then %d", f, first, again, misses, o.answers.Misses())
		}
		o.Forget()
		if again := apply3(t, o, f, 150, e); again != first || o.answers.Misses() == misses {
			t.Errorf("as %d: %v, behind Forget %v", f, first, again)
		}
	}
}

func TestHash(t *testing.T) { // P19.1: a job's hash hangs on all its parts, and is always the same; few of many jobs share a place
	base := job{form: api.TBDD, op: 150, level: 3, edges: edges{at(4, 7), at(5, 8), at(6, 9)}}
	if base.Hash() != base.Hash() {
		t.Error("not the same")
	}
	others := []job{base, base, base, base, base, base, base, base, base, base, base}
	others[0].form, others[1].op, others[2].level = api.CZDD, 151, 4
	for i := range 3 {
		others[3+i].edges[i].At++
		others[6+i].edges[i].Tag++
	}
	others[9].edges[0], others[9].edges[1] = base.edges[1], base.edges[0]
	others[10].edges[1], others[10].edges[2] = base.edges[2], base.edges[1]
	for i, j := range others {
		if j.Hash() == base.Hash() {
			t.Errorf("%d: the same", i)
		}
	}
	places := map[uint64]bool{}
	for k := range 1 << 12 {
		j := job{form: api.BDD, op: 128, level: k & 3, edges: edges{at(0, uint32(2+k>>2&31)), at(0, uint32(2+k>>7)), nothing}}
		places[j.Hash()%(1<<12)] = true
	}
	if len(places) < 2000 {
		t.Errorf("%d places", len(places))
	}
}

func TestSweepAndForget(t *testing.T) { // P19.1: behind a Sweep and Forget what is told is of the nodes that are there now, even if they have the ids of others
	r := rand.New(rand.NewSource(1914))
	for n := 1; n < 6; n++ {
		s := made(t, n, api.MaxRoom)
		all := []*Ops{engine(t, s, 0), engine(t, s, 4), engine(t, s, 16)}
		kept := map[api.Form]edges{}
		tables := map[api.Form][3]string{}
		for range 60 {
			f := forms[r.Intn(5)]
			m := drawn(r, n)
			e := right3(t, s, f, m)
			kept[f], tables[f] = e, m
			for _, o := range all {
				for range 6 {
					op := r.Intn(256)
					isRight(t, "Apply3", s, f, apply3(t, o, f, op, e), 0, byThree(op, m))
				}
			}
			var stay []api.Edge
			for _, g := range forms {
				if r.Intn(2) == 0 {
					stay = append(stay, kept[g][0], kept[g][1], kept[g][2])
				} else {
					delete(kept, g)
				}
			}
			s.Sweep(stay)
			for _, o := range all {
				o.Forget()
			}
			for g, e := range kept {
				op := r.Intn(256)
				isRight(t, "Apply3", s, g, apply3(t, all[r.Intn(3)], g, op, e), 0, byThree(op, tables[g]))
			}
			s.Sweep(stay)
			for _, o := range all {
				o.Forget()
			}
		}
	}
}

func TestIdsThatComeAgain(t *testing.T) { // P19.1: the same call of the same edges, before and behind a Sweep and Forget, when their nodes are others
	s := made(t, 3, 20)
	o := engine(t, s, 20)
	for _, f := range forms {
		a := right(t, s, f, "00001111")
		b := right(t, s, f, "00110011")
		first := apply2(t, o, f, 8, a, b)
		means(t, "Apply", s, f, first, 0, "00000011")
		s.Sweep(nil)
		o.Forget()
		// In another order, so that the ids go to other nodes.
		d := right(t, s, f, "01010101")
		c := right(t, s, f, "00110011")
		means(t, "Apply", s, f, apply2(t, o, f, 8, c, d), 0, "00010001")
		means(t, "Apply", s, f, apply2(t, o, f, 8, d, c), 0, "00010001")
		for _, l := range [][2]api.Edge{{a, b}, {b, a}} {
			if s.Leads(f, l[0], 0) && s.Leads(f, l[1], 0) {
				want := byTwo(8, meaning(s, f, l[0], 0), meaning(s, f, l[1], 0))
				means(t, "Apply", s, f, apply2(t, o, f, 8, l[0], l[1]), 0, want)
			}
		}
		s.Sweep(nil)
		o.Forget()
	}
}

func TestStale(t *testing.T) { // R1: behind a Sweep without Forget nothing is promised but that calls end, and don't panic; behind Forget all is as ever
	r := rand.New(rand.NewSource(1915))
	for range 40 {
		s := made(t, 5, 100)
		o := engine(t, s, 8)
		for range 60 {
			f, l := forms[r.Intn(5)], r.Intn(6)
			e := anyOf(r, leading(s, f, l))
			if told, err := o.At(f, r.Intn(256), l, e[0], e[1], e[2]); err != api.OK && told != nothing {
				t.Fatalf("%v, %v", told, err)
			}
			if r.Intn(8) == 0 {
				s.Sweep(e[:1])
			}
			canon.Cube(s, f, 0, 1<<r.Intn(5), 0)
		}
		o.Forget()
		for _, f := range forms {
			a, b := nothing, node.One(f, 5)
			want := byTwo(6, meaning(s, f, a, 0), meaning(s, f, b, 0))
			if told, err := o.Apply(f, 6, a, b); err == api.OK {
				means(t, "Apply", s, f, told, 0, want)
			}
		}
	}
}

func TestTwoEngines(t *testing.T) { // P19.1: two engines of one store, in turns; two of unlike stores
	r := rand.New(rand.NewSource(1916))
	s, other := made(t, 5, api.MaxRoom), made(t, 5, api.MaxRoom)
	first, second, third := engine(t, s, 3), engine(t, s, 11), engine(t, other, 3)
	if first.Store() != s || second.Store() != s || third.Store() != other {
		t.Fatal("another store")
	}
	for range 60 {
		m, f, op := drawn(r, 5), forms[r.Intn(5)], r.Intn(256)
		e := right3(t, s, f, m)
		told, size := apply3(t, first, f, op, e), s.Len()
		if again := apply3(t, second, f, op, e); again != told || s.Len() != size {
			t.Fatalf("%v, then %v", told, again)
		}
		second.Forget()
		if again := apply3(t, first, f, op, e); again != told {
			t.Fatalf("%v, then %v", told, again)
		}
		beside := drawn(r, 5)
		isRight(t, "Apply3", other, f, apply3(t, third, f, op, right3(t, other, f, beside)), 0, byThree(op, beside))
		isRight(t, "Apply3", s, f, told, 0, byThree(op, m))
	}
}

func TestNoForms(t *testing.T) { // P19.2, P19.3: Shape of what is no form, whatever else is wrong, with room and without
	for _, s := range []*store.Store{made(t, 3, 50), made(t, 0, 0), made(t, 16, 3), mixed(t, 0)} {
		o := engine(t, s, 4)
		for _, f := range noForms() {
			for _, x := range []int{-1, 0, 8, 16, 256, math.MaxInt, math.MinInt} {
				for _, e := range []edges{{}, {at(0, 1), at(0, 1), at(0, 1)}, {at(0, 2), at(1, 2), at(255, 9)}} {
					noCall(t, o, f, x, x, e, api.Shape)
				}
			}
		}
	}
}

func TestNoOps(t *testing.T) { // P19.2, P19.3: Arg of an operation that is none, with room and without; those at the ends are ones
	for _, s := range []*store.Store{made(t, 4, 50), made(t, 0, 0), mixed(t, 0)} {
		o, n := engine(t, s, 4), s.Vars()
		old := records(s)
		for _, f := range forms {
			one := node.One(f, n)
			for _, op := range noOps(16) {
				for _, e := range []api.Edge{nothing, one, at(0, 9), at(255, 1)} {
					told, err := o.Apply(f, op, e, nothing)
					none(t, "Apply", told, err, api.Arg)
				}
			}
			for _, op := range noOps(256) {
				for _, e := range []api.Edge{nothing, one, at(0, 9), at(255, 1)} {
					told, err := o.Apply3(f, op, nothing, e, nothing)
					none(t, "Apply3", told, err, api.Arg)
					for l := range n + 1 {
						told, err = o.At(f, op, l, nothing, nothing, e)
						none(t, "At", told, err, api.Arg)
					}
				}
			}
			for _, op := range []int{0, 15} {
				told, err := o.Apply(f, op, one, one)
				if err == api.Full && op == 15 && s.Room() == len(old) {
					none(t, "Apply", told, err, api.Full)
				} else if means(t, "Apply", s, f, told, 0, strings.Repeat(table(uint64(op), 1), 1<<n)); err != api.OK {
					t.Errorf("Apply of %d: %v", op, err)
				}
				// An operation of three may be greater than any of two.
				if told, err := o.Apply3(f, 16+op*14, nothing, nothing, nothing); told != nothing || err != api.OK {
					t.Errorf("Apply3 of %d: %v, %v", 16+op*14, told, err)
				}
			}
			s.Sweep(nil)
			s = restored(t, s, old)
			o = engine(t, s, 4)
		}
	}
}

// restored: a store of these nodes, by the same ids, with as much room as another one.
func restored(t *testing.T, s *store.Store, old map[uint32]api.Record) *store.Store {
	t.Helper()
	fresh := made(t, s.Vars(), s.Room())
	for id := range uint32(len(old)) {
		if got := found(t, fresh, old[id+2]); got != id+2 {
			t.Fatalf("%d, wanted %d", got, id+2)
		}
	}
	return fresh
}

func TestNoLevels(t *testing.T) { // P19.3: Var of an l that isn't from 0 to n, ahead of an operation that is none and of edges that don't lead, with room and without
	for n := range api.MaxVars + 1 {
		for _, room := range []int{0, 40} {
			s := made(t, n, room)
			o := engine(t, s, 2)
			for _, f := range forms {
				for _, l := range noLevels(n) {
					for _, op := range []int{0, 128, 255, -1, 256, math.MaxInt, math.MinInt} {
						for _, e := range []api.Edge{nothing, at(n, 1), at(0, 1), at(0, 2), at(255, math.MaxUint32)} {
							told, err := o.At(f, op, l, e, nothing, e)
							none(t, "At", told, err, api.Var)
						}
					}
				}
				for _, l := range []int{0, max(0, n-1), n} {
					told, err := o.At(f, 128, l, node.One(f, n), node.One(f, n), node.One(f, n))
					if told != node.One(f, n) || err != api.OK {
						t.Errorf("n %d: At(%d, %d): %v, %v", n, f, l, told, err)
					}
				}
			}
			if s.Len() != 0 {
				t.Errorf("%d nodes", s.Len())
			}
		}
	}
}

func TestNoLead(t *testing.T) { // P19.2, P19.3: Arg of each edge, to any id, with any tag, that doesn't lead, as the first, the second, and the third, at each level; no node is made
	for _, more := range []int{0, 30} {
		s := mixed(t, more)
		o := engine(t, s, 5)
		old := records(s)
		var list []api.Edge
		for _, id := range []uint32{0, 1, 2, 3, 4, 5, 6, 7, 8, 10, 11, 13, 14, 15, 16, 17, 18, 20, 21, 22, 23, 1 << 20, 1<<20 + 2, 1 << 31, math.MaxUint32} {
			for _, tag := range []int{0, 1, 2, 3, 4, 5, 16, 17, 255} {
				list = append(list, at(tag, id))
			}
		}
		for _, f := range forms {
			for l := range 5 {
				for _, e := range list {
					if !s.Leads(f, e, l) {
						noLead(t, o, f, l, e)
					}
				}
			}
		}
		sameNodes(t, s, old)
	}
}

// noLead: each of the calls, of an edge that doesn't lead at a level, at each place.
func noLead(t *testing.T, o *Ops, f api.Form, l int, e api.Edge) {
	t.Helper()
	one := node.One(f, o.Store().Vars())
	for _, q := range []edges{{e, nothing, nothing}, {nothing, e, one}, {one, one, e}, {e, e, e}} {
		// An operation that doesn't ask for the edge, too; and one that is none.
		for _, op := range []int{0, 150, 255, -1, 256} {
			told, err := o.At(f, op, l, q[0], q[1], q[2])
			none(t, "At", told, err, api.Arg)
			if l > 0 {
				continue
			}
			told, err = o.Apply3(f, op, q[0], q[1], q[2])
			none(t, "Apply3", told, err, api.Arg)
			told, err = o.Apply(f, op&15, e, q[1])
			none(t, "Apply", told, err, api.Arg)
			told, err = o.Apply(f, op&15, q[0], e)
			none(t, "Apply", told, err, api.Arg)
			told, err = o.Ite(f, q[0], q[1], q[2])
			none(t, "Ite", told, err, api.Arg)
			told, err = o.Not(f, e)
			none(t, "Not", told, err, api.Arg)
		}
	}
}

func TestNoLeadByHand(t *testing.T) { // P19.2, P19.3: edges that don't lead, one by one
	s := made(t, 3, 40)
	o := engine(t, s, 5)
	low := found(t, s, api.Record{Form: api.BDD, Top: 1, Bot: 1, Hi: at(0, 1)})
	tag := found(t, s, api.Record{Form: api.TBDD, Top: 1, Bot: 1, Hi: at(3, 1)})
	old := records(s)
	for _, c := range []struct {
		f api.Form
		e api.Edge
		l int
	}{
		{api.BDD, at(0, 4), 0}, // no node's
		{api.TBDD, at(0, 4), 0},
		{api.ZDD, at(0, math.MaxUint32), 0},
		{api.ZDD, at(0, low), 0}, // of another form
		{api.CBDD, at(0, low), 0},
		{api.TBDD, at(0, low), 0},
		{api.BDD, at(0, tag), 1},
		{api.BDD, at(1, low), 0}, // not plain
		{api.BDD, at(1, 1), 1},
		{api.CZDD, at(3, 1), 3},
		{api.ZDD, at(1, 0), 0},
		{api.TBDD, at(1, 0), 0},
		{api.TBDD, at(4, 1), 0},
		{api.TBDD, at(255, 1), 0},
		{api.TBDD, at(2, tag), 0}, // a Tag behind its node
		{api.TBDD, at(3, tag), 1},
		{api.BDD, at(0, low), 2}, // a node above the level
		{api.BDD, at(0, low), 3},
		{api.TBDD, at(2, tag), 2},
		{api.TBDD, at(0, tag), 1}, // a Tag above the level
		{api.TBDD, at(2, 1), 3},
	} {
		noLead(t, o, c.f, c.l, c.e)
	}
	sameNodes(t, s, old)
	isRight(t, "Not", s, api.TBDD, not1(t, o, api.TBDD, at(1, tag)), 0, "11001100")
	isRight(t, "Not", s, api.TBDD, not1(t, o, api.TBDD, at(0, tag)), 0, "11001111")
	isRight(t, "At", s, api.BDD, applyAt(t, o, api.BDD, 15, 1, edges{at(0, low)}), 1, "1100")
}

func TestFirstErrors(t *testing.T) { // P19.2, P19.3, R2: in a store that is full: what is wrong ahead of Full; and Full, where a node is lacking
	s := mixed(t, 0)
	o, old := engine(t, s, 7), records(s)
	for _, f := range forms {
		top := nothing
		for id := range uint32(len(old) + 2) {
			if e := tagged(f, id, 0); id > 1 && s.Leads(f, e, 0) {
				top = e
			}
		}
		for _, op := range noOps(16) {
			told, err := o.Apply(f, op, top, nothing)
			none(t, "Apply", told, err, api.Arg)
		}
		for _, op := range noOps(256) {
			told, err := o.Apply3(f, op, top, top, nothing)
			none(t, "Apply3", told, err, api.Arg)
		}
		for _, l := range noLevels(4) {
			told, err := o.At(f, 15, l, top, nothing, at(9, 9))
			none(t, "At", told, err, api.Var)
		}
		for _, e := range []api.Edge{at(0, 22), at(9, 2), at(0, math.MaxUint32)} {
			noLead(t, o, f, 0, e)
		}
		noCall(t, o, 6, 3, 0, edges{top, top, top}, api.Shape)
		told, err := o.Not(f, top)
		none(t, "Not", told, err, api.Full)
		told, err = o.Apply(f, 12, top, nothing)
		if told != top || err != api.OK {
			t.Fatalf("Apply of 12: %v, %v", told, err)
		}
	}
	sameNodes(t, s, old)
}

// enough room: as the chapter's Words have it, read so that it is least: the 3 counts once.
func enough(n int, sizes ...int) int {
	k := len(sizes)
	most, product := (k+1)<<n, (k+1)*n*3
	for _, size := range sizes {
		product *= size + 1
	}
	return min(most, product)
}

// sizeOf an edge.
func sizeOf(t *testing.T, s *store.Store, f api.Form, e api.Edge, l int) int {
	t.Helper()
	size, err := canon.Size(s, f, e, l)
	if err != api.OK {
		t.Fatal(err)
	}
	return size
}

// alone3: three edges in a store of their own, in which no other nodes are, with room for some more.
func alone3(t *testing.T, s *store.Store, e edges, more int) (*store.Store, edges) {
	t.Helper()
	size := len(s.Reach(e[:]))
	to := made(t, s.Vars(), size+more)
	return to, edges{copied(t, s, to, e[0]), copied(t, s, to, e[1]), copied(t, s, to, e[2])}
}

// withMoreRoom: an operation with more and more room from none on: Full only where there isn't room enough, and not once there was; what is told is true, and beside Full the nodes stay, and later answers are true.
func withMoreRoom(t *testing.T, s *store.Store, f api.Form, op, l int, e edges) {
	t.Helper()
	need := enough(s.Vars(), sizeOf(t, s, f, e[0], l), sizeOf(t, s, f, e[1], l), sizeOf(t, s, f, e[2], l))
	want := byThree(op, meanings(s, f, e, l))
	fits := false
	for more := 0; more <= need && !(fits && more > 40 && more < need); more++ {
		to, q := alone3(t, s, e, more)
		o, old := engine(t, to, 6), records(to)
		told, err := o.At(f, op, l, q[0], q[1], q[2])
		stillThere(t, to, old)
		if err == api.OK {
			fits = true
			means(t, "At", to, f, told, l, want)
			continue
		}
		none(t, "At", told, err, api.Full)
		if fits || more >= need {
			t.Fatalf("At(%d, %d, %d) of %v: Full with room for %d of %d", f, op, l, meanings(to, f, q, l), more, need)
		}
		afterFull(t, o, f, l, q)
	}
}

// afterFull: later answers of an engine that told Full, and with room again.
func afterFull(t *testing.T, o *Ops, f api.Form, l int, e edges) {
	t.Helper()
	later(t, o, f, l, e)
	o.Store().Sweep(e[:])
	o.Forget()
	later(t, o, f, l, e)
}

// later answers: true, or Full.
func later(t *testing.T, o *Ops, f api.Form, l int, e edges) {
	t.Helper()
	s := o.Store()
	m := meanings(s, f, e, l)
	for _, op := range []int{0, 240, 204, 170, 136, 128, 254, 202, 15, 150} {
		old := records(s)
		told, err := o.At(f, op, l, e[0], e[1], e[2])
		stillThere(t, s, old)
		if err == api.OK {
			means(t, "later", s, f, told, l, byThree(op, m))
			continue
		}
		none(t, "later", told, err, api.Full)
	}
}

func TestFull(t *testing.T) { // P19.2, P19.3: Full only where there isn't room enough: drawn right edges of up to five levels, at each level
	r := rand.New(rand.NewSource(1917))
	for n := range 6 {
		s := made(t, n, api.MaxRoom)
		for range 12 {
			for _, f := range forms {
				l := r.Intn(n+1) * r.Intn(2)
				withMoreRoom(t, s, f, r.Intn(256), l, right3(t, s, f, drawn(r, n-l)))
			}
		}
	}
}

func TestFullOfCutEdges(t *testing.T) { // P19.3: likewise, edges that aren't right
	r := rand.New(rand.NewSource(1918))
	for _, s := range []*store.Store{everything(t, 2, 0), everything(t, 3, 0), mixed(t, 0)} {
		for _, f := range forms {
			for range 40 {
				l := r.Intn(s.Vars()+1) * r.Intn(2)
				withMoreRoom(t, s, f, r.Intn(256), l, anyOf(r, leading(s, f, l)))
			}
		}
	}
}

// long: diagrams of few nodes, in which chains and tags play a part, of n levels: tables.
func long(n int) []string {
	size := 1 << n
	return []string{
		zeros(size),
		ones(size),
		padded("1", size),                      // noughts alone
		"0" + ones(size-1),                     // some 1
		zeros(size-1) + "1",                    // all ones
		strings.Repeat("01", size/2),           // the last level
		zeros(size/2) + ones(size/2),           // the first one
		padded(ones(1<<(n/2)), size),           // free below, 0 above
		strings.Repeat(padded("1", 8), size/8), // 0 below, free above
		strings.Repeat(zeros(1<<(n-3))+ones(1<<(n-3)), 4),
	}
}

func TestFullOfLongChains(t *testing.T) { // P19.2: likewise, sets of six and of twelve levels whose diagrams have few nodes: just so much room as their sizes ask for, and more, or less
	for _, n := range []int{6, 11} {
		s := made(t, n, api.MaxRoom)
		for _, f := range forms {
			for i, a := range long(n) {
				for k, b := range long(n) {
					ea, eb := right(t, s, f, a), right(t, s, f, b)
					need := enough(n, sizeOf(t, s, f, ea, 0), sizeOf(t, s, f, eb, 0))
					op := (3*i + 5*k) % 16
					for _, more := range []int{need, need + 1, need / 2, 7, 0} {
						to, q := alone3(t, s, edges{ea, eb}, more)
						told, err := engine(t, to, i).Apply(f, op, q[0], q[1])
						if err == api.OK {
							isRight(t, "Apply", to, f, told, 0, byTwo(op, a, b))
							continue
						}
						none(t, "Apply", told, err, api.Full)
						if more >= need {
							t.Fatalf("Apply(%d, %d) of %d and %d: Full with room for %d of %d", f, op, i, k, more, need)
						}
					}
				}
			}
		}
	}
}

func TestFullOfNotAndIte(t *testing.T) { // P19.3: likewise: Not with the room of an operation of two, one of them nothing; Ite with that of three
	r := rand.New(rand.NewSource(1919))
	for n := range 7 {
		s := made(t, n, api.MaxRoom)
		list := []string{draw(r, n), draw(r, n), draw(r, n), draw(r, n), zeros(1 << n), ones(1 << n)}
		if n > 2 {
			list = append(list, long(n)...)
		}
		for _, f := range forms {
			for i, a := range list {
				b, c := list[(i+1)%len(list)], list[(i+3)%len(list)]
				e := right3(t, s, f, [3]string{a, b, c})
				need := enough(n, sizeOf(t, s, f, e[0], 0), 0)
				to, q := alone3(t, s, edges{e[0]}, need)
				isRight(t, "Not", to, f, not1(t, engine(t, to, 0), f, q[0]), 0, byTwo(3, a, a))
				need = enough(n, sizeOf(t, s, f, e[0], 0), sizeOf(t, s, f, e[1], 0), sizeOf(t, s, f, e[2], 0))
				to, q = alone3(t, s, e, need)
				isRight(t, "Ite", to, f, ite1(t, engine(t, to, 0), f, q[0], q[1], q[2]), 0, byThree(202, [3]string{a, b, c}))
			}
		}
	}
}

func TestFullWithKeptAnswers(t *testing.T) { // P19.2, P19.3: likewise, an engine that has told other answers in the same store: what counts is the room beside the nodes there are
	r := rand.New(rand.NewSource(1920))
	for n := 2; n < 6; n++ {
		for range 8 {
			for _, f := range forms {
				m := drawn(r, n)
				s := made(t, n, 3*(1<<n)+4*(1<<n)*3)
				e := right3(t, s, f, m)
				o := engine(t, s, r.Intn(9))
				for s.Room()-s.Len() >= 4<<n {
					op, size := r.Intn(256), s.Len()
					told, err := o.Apply3(f, op, e[0], e[1], e[2])
					if err != api.OK {
						t.Fatalf("Full with room for %d", s.Room()-size)
					}
					isRight(t, "Apply3", s, f, told, 0, byThree(op, m))
					if s.Len() == size && r.Intn(4) == 0 {
						break
					}
				}
			}
		}
	}
}

func TestFewNodes(t *testing.T) { // P19.2: an operation that is done makes no more nodes than room enough is; done again none
	r := rand.New(rand.NewSource(1921))
	for n := range 9 {
		s := made(t, n, api.MaxRoom)
		for range 10 {
			m := drawn(r, n)
			for _, f := range forms {
				e := right3(t, s, f, m)
				need := enough(n, sizeOf(t, s, f, e[0], 0), sizeOf(t, s, f, e[1], 0))
				before, op := s.Len(), r.Intn(16)
				apply2(t, engine(t, s, 0), f, op, e[0], e[1])
				if s.Len()-before > need {
					t.Fatalf("%d nodes, room enough is %d", s.Len()-before, need)
				}
				before = s.Len()
				apply2(t, engine(t, s, 3), f, op, e[0], e[1])
				if s.Len() != before {
					t.Fatalf("%d nodes more, done again", s.Len()-before)
				}
			}
		}
	}
}

func TestLaws(t *testing.T) { // P19.4: laws of sets, edge for edge, of drawn right edges of up to eight levels, as each form
	r := rand.New(rand.NewSource(1922))
	for n := range 9 {
		s := made(t, n, api.MaxRoom)
		o := engine(t, s, 10)
		for range 8 {
			m := drawn(r, n)
			for _, f := range forms {
				laws(t, o, f, right3(t, s, f, m))
			}
		}
	}
}

// laws of three right edges.
func laws(t *testing.T, o *Ops, f api.Form, e edges) {
	t.Helper()
	const and, xor, or = 8, 6, 14
	a, b, c := e[0], e[1], e[2]
	two := func(op int, x, y api.Edge) api.Edge { t.Helper(); return apply2(t, o, f, op, x, y) }
	not := func(x api.Edge) api.Edge { t.Helper(); return not1(t, o, f, x) }
	same := func(law string, x, y api.Edge) {
		t.Helper()
		if x != y {
			t.Fatalf("%s as %d: %v, %v", law, f, x, y)
		}
	}
	all := not(nothing)
	same("not of all", not(all), nothing)
	same("not of not", not(not(a)), a)
	same("De Morgan's, of both", not(two(and, a, b)), two(or, not(a), not(b)))
	same("De Morgan's, of any", not(two(or, a, b)), two(and, not(a), not(b)))
	same("both over any", two(and, a, two(or, b, c)), two(or, two(and, a, b), two(and, a, c)))
	same("any over both", two(or, a, two(and, b, c)), two(and, two(or, a, b), two(or, a, c)))
	same("both over unlike", two(and, a, two(xor, b, c)), two(xor, two(and, a, b), two(and, a, c)))
	for _, op := range []int{and, or} {
		same("twice one", two(op, a, a), a)
	}
	for _, op := range []int{and, xor, or} {
		same("in any order", two(op, a, b), two(op, b, a))
		same("in any grouping", two(op, a, two(op, b, c)), two(op, two(op, a, b), c))
	}
	same("unlike itself", two(xor, a, a), nothing)
	same("unlike its others", two(xor, a, not(a)), all)
	same("unlike twice", two(xor, two(xor, a, b), b), a)
	same("neutral: all", two(and, a, all), a)
	same("neutral: nothing", two(or, nothing, a), a)
	same("neutral: unlike nothing", two(xor, a, nothing), a)
	same("absorbs: nothing", two(and, nothing, a), nothing)
	same("absorbs: all", two(or, a, all), all)
	same("absorbs, both", two(and, a, two(or, a, b)), a)
	same("absorbs, any", two(or, a, two(and, a, b)), a)
	same("none of both", two(and, a, not(a)), nothing)
	same("any of both", two(or, a, not(a)), all)
	same("without", two(4, a, b), two(and, a, not(b)))
	same("if", two(11, a, b), not(two(and, a, not(b))))
	ite := ite1(t, o, f, a, b, c)
	same("ite", ite, two(or, two(and, a, b), two(and, not(a), c)))
	same("ite, both", ite, two(and, two(or, not(a), b), two(or, a, c)))
	same("ite of one", ite1(t, o, f, a, b, b), b)
	same("ite of itself", ite1(t, o, f, a, all, nothing), a)
	same("ite of all", ite1(t, o, f, all, b, c), b)
	same("ite of nothing", ite1(t, o, f, nothing, b, c), c)
	same("most of three", apply3(t, o, f, 232, e), two(or, two(and, a, b), two(and, c, two(or, a, b))))
	same("odd of three", apply3(t, o, f, 150, e), two(xor, a, two(xor, b, c)))
	for op := range 16 {
		wide := 0
		for k := range 8 {
			wide |= op >> (k >> 1) & 1 << k
		}
		same("two by three", two(op, a, b), apply3(t, o, f, wide, e))
		same("two by its complement", two(op, a, b), not(two(15-op, a, b)))
	}
	same("two by three, first and third", two(and, a, c), apply3(t, o, f, 0xa0, e))
	same("two by three, second and third", two(or, b, c), apply3(t, o, f, 0xee, e))
}

func TestLawsAt(t *testing.T) { // P19.4: likewise at other levels: drawn operations of three by Shannon's law, level by level
	r := rand.New(rand.NewSource(1923))
	for n := 1; n < 7; n++ {
		s := made(t, n, api.MaxRoom)
		o := engine(t, s, 9)
		for range 25 {
			l := r.Intn(n)
			m := drawn(r, n-l)
			for _, f := range forms {
				e, op := right3(t, s, f, m), r.Intn(256)
				var low, high edges
				for i := range e {
					var err api.Err
					if low[i], high[i], err = canon.View(s, f, e[i], l); err != api.OK {
						t.Fatal(err)
					}
				}
				lo, hi := applyAt(t, o, f, op, l+1, low), applyAt(t, o, f, op, l+1, high)
				want, err := canon.Make(s, f, l, lo, hi)
				if got := applyAt(t, o, f, op, l, e); got != want || err != api.OK {
					t.Fatalf("At(%d, %d, %d, %v): %v, wanted %v, %v", f, op, l, m, got, want, err)
				}
			}
		}
	}
}

func TestFormsSideBySide(t *testing.T) { // P19.2: one engine, all forms: what is done in one changes no other one
	r := rand.New(rand.NewSource(1924))
	s := made(t, 6, api.MaxRoom)
	o := engine(t, s, 4)
	for range 15 {
		m, op := drawn(r, 6), r.Intn(256)
		var told []api.Edge
		for _, f := range forms {
			told = append(told, apply3(t, o, f, op, right3(t, s, f, m)))
		}
		for i, f := range forms {
			isRight(t, "Apply3", s, f, told[i], 0, byThree(op, m))
		}
	}
}

func TestNoVariables(t *testing.T) { // P19.2, P19.3: a store for no variable, one that New didn't make: each operation of nothing and one
	for _, s := range []*store.Store{made(t, 0, 3), made(t, 0, 0), {}} {
		o := engine(t, s, 1)
		for _, f := range forms {
			for k := range 8 {
				e := edges{at(0, uint32(k>>2)), at(0, uint32(k>>1&1)), at(0, uint32(k&1))}
				for op := range 256 {
					want := at(0, uint32(op>>k&1))
					if apply3(t, o, f, op, e) != want || applyAt(t, o, f, op, 0, e) != want {
						t.Fatalf("op %d of %03b isn't %v", op, k, want)
					}
				}
				for op := range 16 {
					if apply2(t, o, f, op, e[0], e[1]) != at(0, uint32(op>>(k>>1)&1)) {
						t.Fatalf("op %d of %03b", op, k)
					}
				}
			}
			told, err := o.At(f, 0, 1, nothing, nothing, nothing)
			none(t, "At", told, err, api.Var)
			noLead(t, o, f, 0, at(1, 1))
			noLead(t, o, f, 0, at(0, 2))
		}
		if s.Len() != 0 {
			t.Errorf("%d nodes", s.Len())
		}
	}
}

func TestSixteen(t *testing.T) { // P19.2 to P19.4: sixteen levels: drawn sets, sparse ones, long chains, with many kept answers and with few
	r := rand.New(rand.NewSource(1925))
	sparse, dense := []byte(zeros(1<<16)), make([]byte, 1<<16)
	for range 60 {
		sparse[r.Intn(1<<16)] = '1'
	}
	for x := range dense {
		dense[x] = '0' + byte(r.Intn(2))
	}
	list := append(long(16), string(sparse), string(dense), draw(r, 16))
	for _, f := range forms {
		s := made(t, 16, api.MaxRoom)
		for _, bits := range []int{0, 16} {
			o := engine(t, s, bits)
			for range 10 {
				m := [3]string{list[r.Intn(len(list))], list[r.Intn(len(list))], list[r.Intn(len(list))]}
				e := right3(t, s, f, m)
				for _, op := range []int{r.Intn(256), 150} {
					told, want := apply3(t, o, f, op, e), byThree(op, m)
					isRight(t, "Apply3", s, f, told, 0, want)
					if told != right(t, s, f, want) {
						t.Fatalf("Apply3(%d, %d) is %v", f, op, told)
					}
				}
				if not := not1(t, o, f, e[0]); not1(t, o, f, not) != e[0] {
					t.Fatalf("Not of %v is %v", e[0], not)
				}
			}
		}
	}
}

func TestNothingPanics(t *testing.T) { // R1, R2, R6: drawn arguments of any kind, held against the first error that holds, and the same again
	r := rand.New(rand.NewSource(1926))
	stores := []*store.Store{{}, made(t, 0, 3), everything(t, 2, 0), everything(t, 2, 3), mixed(t, 0), mixed(t, 9), mixed(t, 400), made(t, 5, 0), made(t, 5, 9), made(t, 16, 0)}
	all := []*Ops{nil, {}}
	for i, s := range stores {
		all = append(all, engine(t, s, i), engine(t, s, 20-i))
	}
	for range 60000 {
		o := all[r.Intn(len(all))]
		f := api.Form(r.Intn(256) >> r.Intn(7))
		e := edges{wild(r), wild(r), wild(r)}
		op, l := ends(r), ends(r)
		if r.Intn(2) == 0 {
			op, l = r.Intn(256), r.Intn(o.Store().Vars()+1)
		}
		anyTwice(t, o, f, op, l, e)
	}
}

// wild: an edge of any kind.
func wild(r *rand.Rand) api.Edge {
	if r.Intn(2) == 0 {
		return at(0, uint32(r.Intn(24)))
	}
	return at(r.Intn(256)>>r.Intn(9), r.Uint32()>>r.Intn(33))
}

// ends: numbers, some of them at their ends.
func ends(r *rand.Rand) int {
	return []int{-1, 0, 1, 2, 4, 5, 15, 16, 255, 256, math.MaxInt, math.MinInt, r.Intn(300)}[r.Intn(13)]
}

// first: the error that holds, ahead of Full.
func first(o *Ops, f api.Form, op, ops, l int, e ...api.Edge) api.Err {
	s := o.Store()
	switch {
	case s == nil:
		return api.Nil
	case f < 1 || f > 5:
		return api.Shape
	case l < 0 || l > s.Vars():
		return api.Var
	case op < 0 || op >= ops:
		return api.Arg
	}
	for _, e := range e {
		if !s.Leads(f, e, l) {
			return api.Arg
		}
	}
	return api.OK
}

// anyTwice: each of the calls, twice.
func anyTwice(t *testing.T, o *Ops, f api.Form, op, l int, e edges) {
	t.Helper()
	twice := func(want api.Err, meant func() string, level int, call func() (api.Edge, api.Err)) {
		t.Helper()
		size := o.Store().Len()
		told, err := call()
		later := o.Store().Len()
		again, same := call()
		if told != again || err != same || err != api.OK && told != nothing || o.Store().Len() != later {
			t.Fatalf("%v, %v, then %v, %v", told, err, again, same)
		}
		if want != api.OK && (err != want || o.Store().Len() != size) || want == api.OK && err != api.OK && err != api.Full {
			t.Fatalf("of %d, %d, %d, %v: %v, %v, wanted %v", f, op, l, e, told, err, want)
		}
		if err == api.OK && o.Store().Vars() < 9 {
			means(t, "any", o.Store(), f, told, level, meant())
		}
	}
	s := o.Store()
	three := func(op, l int) func() string {
		return func() string { return byThree(op, meanings(s, f, e, l)) }
	}
	two := func() string { return byTwo(op, meaning(s, f, e[0], 0), meaning(s, f, e[1], 0)) }
	not := func() string { return byTwo(3, meaning(s, f, e[0], 0), zeros(1<<s.Vars())) }
	twice(first(o, f, op, 16, 0, e[0], e[1]), two, 0, func() (api.Edge, api.Err) { return o.Apply(f, op, e[0], e[1]) })
	twice(first(o, f, op, 256, 0, e[:]...), three(op, 0), 0, func() (api.Edge, api.Err) { return o.Apply3(f, op, e[0], e[1], e[2]) })
	twice(first(o, f, op, 256, l, e[:]...), three(op, l), l, func() (api.Edge, api.Err) { return o.At(f, op, l, e[0], e[1], e[2]) })
	twice(first(o, f, 0, 1, 0, e[0]), not, 0, func() (api.Edge, api.Err) { return o.Not(f, e[0]) })
	twice(first(o, f, 0, 1, 0, e[:]...), three(202, 0), 0, func() (api.Edge, api.Err) { return o.Ite(f, e[0], e[1], e[2]) })
}
