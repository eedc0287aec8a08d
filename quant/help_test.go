package quant

import (
	"math"
	"math/bits"
	"math/rand"
	"strings"
	"testing"

	"ramage/api"
	"ramage/apply"
	"ramage/canon"
	"ramage/node"
	"ramage/store"
)

var nothing = api.Edge{}

var forms = []api.Form{api.BDD, api.ZDD, api.CBDD, api.CZDD, api.TBDD}

// The calls that tell an edge.
const (
	exists = iota
	forall
	andExists
	with
	compose
	kinds
)

// call of a quantifier, with what it is asked with; what its kind has no place for plays no part.
type call struct {
	kind   int
	f      api.Form
	a, b   api.Edge
	levels uint16
	level  int
	one    bool
}

// ask a quantifier.
func (c call) ask(q *Quant) (api.Edge, api.Err) {
	switch c.kind {
	case exists:
		return q.Exists(c.f, c.a, c.levels)
	case forall:
		return q.Forall(c.f, c.a, c.levels)
	case andExists:
		return q.AndExists(c.f, c.a, c.b, c.levels)
	case with:
		return q.With(c.f, c.a, c.level, c.one)
	}
	return q.Compose(c.f, c.a, c.level, c.b)
}

// wants: what the chapter asks for, by tables of both sets.
func (c call) wants(a, b string) string {
	switch c.kind {
	case exists:
		return someWay(a, c.levels)
	case forall:
		return eachWay(a, c.levels)
	case andExists:
		return someWay(byTwo(8, a, b), c.levels)
	case with:
		return setTo(a, c.level, c.one)
	}
	return composed(a, c.level, b)
}

// meant: likewise, by what the edges mean.
func (c call) meant(s *store.Store) string {
	return c.wants(meaning(s, c.f, c.a, 0), meaning(s, c.f, c.b, 0))
}

// told: what a call tells, where it must tell an edge.
func told(t *testing.T, q *Quant, c call) api.Edge {
	t.Helper()
	e, err := c.ask(q)
	if err != api.OK {
		t.Fatalf("%+v: %v", c, err)
	}
	return e
}

// tells: a call is told an edge that means what the chapter asks for; nodes that there were stay.
func tells(t *testing.T, q *Quant, c call) api.Edge {
	t.Helper()
	s := q.o.Store()
	want, old := c.meant(s), records(s)
	e := told(t, q, c)
	means(t, c, s, e, want)
	stillThere(t, s, old)
	return e
}

// tellsRight: a call of right edges of these sets is told the right edge of what the chapter asks for.
func tellsRight(t *testing.T, q *Quant, c call, a, b string) api.Edge {
	t.Helper()
	s, want := q.o.Store(), c.wants(a, b)
	e := told(t, q, c)
	means(t, c, s, e, want)
	if !canon.Right(s, c.f, e, 0) || e != right(t, s, c.f, want) {
		t.Fatalf("%+v of %s, %s: %v isn't right", c, a, b, e)
	}
	return e
}

// means: does an edge that a call was told lead at the level 0, and mean this there?
func means(t *testing.T, c call, s *store.Store, e api.Edge, want string) {
	t.Helper()
	if !s.Leads(c.f, e, 0) {
		t.Fatalf("%+v: %v doesn't lead", c, e)
	}
	if got := meaning(s, c.f, e, 0); got != want {
		t.Fatalf("%+v: %v means %s, wanted %s", c, e, got, want)
	}
}

// plays: Support, where it must tell levels.
func plays(t *testing.T, q *Quant, f api.Form, e api.Edge) uint16 {
	t.Helper()
	levels, err := q.Support(f, e)
	if err != api.OK {
		t.Fatalf("Support(%d, %v): %v", f, e, err)
	}
	return levels
}

// places of levels: of the numbers of assignments by levels the bits that stand for them.
func places(table string, levels uint16) int {
	var mask int
	for k := range levelsOf(table) {
		mask |= int(levels>>k&1) << (levelsOf(table) - 1 - k)
	}
	return mask
}

// levelsOf a table: how many.
func levelsOf(table string) int { return bits.Len(uint(len(table))) - 1 }

// ways: of each assignment in how many ways to set levels it is in the set.
func ways(table string, levels uint16) []int {
	mask := places(table, levels)
	counts := make([]int, len(table))
	for x := range table {
		counts[x&^mask] += int(table[x] - '0')
	}
	for x := range table {
		counts[x] = counts[x&^mask]
	}
	return counts
}

// someWay: what is in a set for some way to set levels.
func someWay(table string, levels uint16) string {
	return where(len(table), func(x int, counts []int) bool { return counts[x] > 0 }, ways(table, levels))
}

// eachWay: likewise, for each way.
func eachWay(table string, levels uint16) string {
	all := 1 << bits.OnesCount16(levels)
	return where(len(table), func(x int, counts []int) bool { return counts[x] == all }, ways(table, levels))
}

// where something holds of an assignment: as a table.
func where(size int, holds func(x int, counts []int) bool, counts []int) string {
	b := []byte(zeros(size))
	for x := range b {
		if holds(x, counts) {
			b[x] = '1'
		}
	}
	return string(b)
}

// setTo: a set when a level is set.
func setTo(table string, level int, one bool) string {
	bit := places(table, 1<<level)
	b := []byte(table)
	for x := range b {
		from := x &^ bit
		if one {
			from |= bit
		}
		b[x] = table[from]
	}
	return string(b)
}

// composed: a set when a level is set to whether the assignment is in another one.
func composed(table string, level int, by string) string {
	bit := places(table, 1<<level)
	b := []byte(table)
	for x := range b {
		if by[x] == '1' {
			b[x] = table[x|bit]
		} else {
			b[x] = table[x&^bit]
		}
	}
	return string(b)
}

// supportOf a set: the levels that play a part.
func supportOf(table string) uint16 {
	var levels uint16
	for k := range levelsOf(table) {
		for x := range table {
			if table[x] != table[x^places(table, 1<<k)] {
				levels |= 1 << k
				break
			}
		}
	}
	return levels
}

// byTwo: what an operation of two tells of each place of two tables.
func byTwo(op int, a, b string) string {
	c := make([]byte, len(a))
	for x := range c {
		c[x] = '0' + byte(op>>(2*(a[x]-'0')+(b[x]-'0'))&1)
	}
	return string(c)
}

// drawCall: of a form, of two edges, with drawn levels of n, one at least.
func drawCall(r *rand.Rand, n int, f api.Form, a, b api.Edge) call {
	c := call{kind: r.Intn(kinds), f: f, a: a, b: b, level: r.Intn(n), one: r.Intn(2) == 0}
	switch r.Intn(5) {
	case 0:
		c.levels = 1 << r.Intn(n)
	case 1:
		c.levels = 1<<n - 1
	default:
		c.levels = uint16(r.Intn(1 << n))
	}
	return c
}

// callsOf two edges: each call that there is, with each choice of n levels, or each of them.
func callsOf(n int, f api.Form, a, b api.Edge) []call {
	var list []call
	for levels := range 1 << n {
		for _, kind := range []int{exists, forall, andExists} {
			list = append(list, call{kind: kind, f: f, a: a, b: b, levels: uint16(levels)})
		}
	}
	for level := range n {
		list = append(list, call{kind: with, f: f, a: a, level: level}, call{kind: with, f: f, a: a, level: level, one: true},
			call{kind: compose, f: f, a: a, b: b, level: level})
	}
	return list
}

// at: an edge with a tag.
func at(tag int, id uint32) api.Edge { return api.Edge{Tag: uint8(tag), At: id} }

// tagged: an edge of a form to an id, that may stand at a level from 0 to the one that is told; of a TBDD that is its tag.
func tagged(f api.Form, id uint32, tag int) api.Edge {
	if f == api.TBDD {
		return at(tag, id)
	}
	return at(0, id)
}

// made: a store.
func made(t *testing.T, n, room int) *store.Store {
	t.Helper()
	s, err := store.New(n, room)
	if err != api.OK || s == nil {
		t.Fatalf("store.New(%d, %d): %v", n, room, err)
	}
	return s
}

// engine of a store.
func engine(t *testing.T, s *store.Store, bits int) *apply.Ops {
	t.Helper()
	o, err := apply.New(s, bits)
	if err != api.OK || o == nil {
		t.Fatalf("apply.New(%d): %v", bits, err)
	}
	return o
}

// quantifier of an engine.
func quantifier(t *testing.T, o *apply.Ops, bits int) *Quant {
	t.Helper()
	q, err := New(o, bits)
	if err != api.OK || q == nil {
		t.Fatalf("New(%d): %v", bits, err)
	}
	return q
}

// fresh: a quantifier of an engine of its own, both with so many bits.
func fresh(t *testing.T, s *store.Store, bits int) *Quant {
	t.Helper()
	return quantifier(t, engine(t, s, bits), bits)
}

// found: the id of the node of a record that may be.
func found(t *testing.T, s *store.Store, r api.Record) uint32 {
	t.Helper()
	id, err := s.Find(r)
	if err != api.OK {
		t.Fatalf("Find(%v): %v", r, err)
	}
	return id
}

// zeros: so many.
func zeros(size int) string { return strings.Repeat("0", size) }

// ones: likewise.
func ones(size int) string { return strings.Repeat("1", size) }

// padded: a table as the first ones of a greater table, whose others are 0.
func padded(table string, size int) string { return table + zeros(size-len(table)) }

// meaning: what an edge means, as the Words of its form's chapter tell it: a text of 0 and 1, one of these for each assignment of the levels from l on, the level l as its highest bit.
func meaning(s *store.Store, f api.Form, e api.Edge, l int) string {
	size := 1 << (s.Vars() - l)
	if e.At == 0 {
		return zeros(size)
	}
	part := "1"
	if e.At > 1 {
		r, _ := s.Get(e.At)
		part = meaningOfNode(s, r)
	}
	switch f {
	case api.BDD, api.CBDD:
		return strings.Repeat(part, size/len(part))
	case api.ZDD, api.CZDD:
		return padded(part, size)
	}
	below := 1 << (s.Vars() - int(e.Tag))
	return strings.Repeat(padded(part, below), size/below)
}

// meaningOfNode: likewise, at its Top.
func meaningOfNode(s *store.Store, r api.Record) string {
	below := int(r.Bot) + 1
	lo, hi := meaning(s, r.Form, r.Lo, below), meaning(s, r.Form, r.Hi, below)
	rows := 1 << (below - int(r.Top))
	if r.Form == api.CBDD {
		return lo + strings.Repeat(hi, rows-1)
	}
	return strings.Repeat(lo+hi, rows/2)
}

// table of a number's lowest bits.
func table(x uint64, size int) string {
	b := make([]byte, size)
	for i := range b {
		b[i] = '0' + byte(x>>i&1)
	}
	return string(b)
}

// draw a table of so many variables: some even, some sparse, some dense, some made of few parts, some in which variables play no part, some in which they are 0.
func draw(r *rand.Rand, n int) string {
	kind := r.Intn(8)
	if kind == 3 && n > 2 {
		parts := []string{draw(r, n-2), draw(r, n-2), zeros(1 << (n - 2))}
		var b strings.Builder
		for range 4 {
			b.WriteString(parts[r.Intn(3)])
		}
		return b.String()
	}
	if kind == 4 && n > 0 {
		length := 1 + r.Intn(n)
		return strings.Repeat(draw(r, n-length), 1<<length)
	}
	if kind > 4 && kind < 7 && n > 0 {
		return padded(draw(r, n-1-r.Intn((n+1)/2)), 1<<n)
	}
	if kind == 7 && n > 0 {
		return draw(r, n-1) + ones(1<<(n-1))
	}
	limit := []int{4, 1, 7, 4, 4, 4, 4, 4}[kind]
	b := make([]byte, 1<<n)
	for i := range b {
		b[i] = '0'
		if r.Intn(8) < limit {
			b[i] = '1'
		}
	}
	return string(b)
}

// drawn: two tables, some of them the same, some without some of the levels.
func drawn(r *rand.Rand, n int) (a, b string) {
	a, b = draw(r, n), draw(r, n)
	if r.Intn(4) == 0 {
		a = someWay(a, uint16(r.Intn(1<<n)))
	}
	if r.Intn(8) == 0 {
		b = a
	}
	return a, b
}

// long: diagrams of few nodes, in which chains and tags play a part, of n levels: tables.
func long(n int) []string {
	size := 1 << n
	return []string{
		zeros(size),
		ones(size),
		padded("1", size),                      // noughts alone
		"0" + ones(size-1),                     // some 1
		zeros(size-1) + "1",                    // all ones
		strings.Repeat("01", size/2),           // the last level
		zeros(size/2) + ones(size/2),           // the first one
		padded(ones(1<<(n/2)), size),           // free below, 0 above
		strings.Repeat(padded("1", 8), size/8), // 0 below, free above
		strings.Repeat(zeros(1<<(n-3))+ones(1<<(n-3)), 4),
	}
}

// right: the right edge of a table at the level 0.
func right(t *testing.T, s *store.Store, f api.Form, byLevels string) api.Edge {
	t.Helper()
	edges := map[string]api.Edge{"0": nothing, "1": node.One(f, s.Vars())}
	var of func(table string, l int) api.Edge
	of = func(table string, l int) api.Edge {
		if e, ok := edges[table]; ok {
			return e
		}
		half := len(table) / 2
		lo, hi := of(table[:half], l+1), of(table[half:], l+1)
		e, err := canon.Make(s, f, l, lo, hi)
		if err != api.OK {
			t.Fatalf("canon.Make: %v", err)
		}
		edges[table] = e
		return e
	}
	return of(byLevels, 0)
}

// records of all nodes, by ids.
func records(s *store.Store) map[uint32]api.Record {
	all := map[uint32]api.Record{}
	for id := range s.Ids() {
		r, _ := s.Get(id)
		all[id] = r
	}
	return all
}

// sameNodes: has a store just these nodes?
func sameNodes(t *testing.T, s *store.Store, want map[uint32]api.Record) {
	t.Helper()
	if s.Len() != len(want) {
		t.Fatalf("%d nodes, wanted %d", s.Len(), len(want))
	}
	stillThere(t, s, want)
}

// stillThere: has a store these nodes, whatever others it has?
func stillThere(t *testing.T, s *store.Store, want map[uint32]api.Record) {
	t.Helper()
	for id, r := range want {
		if now, ok := s.Get(id); !ok || now != r {
			t.Fatalf("node %d is %v, wanted %v", id, now, r)
		}
	}
}

// leading: all edges of a form that lead at a level.
func leading(s *store.Store, f api.Form, l int) []api.Edge {
	list := []api.Edge{nothing}
	for id := range uint32(s.Len() + 2) {
		for tag := range s.Vars() + 1 {
			if id > 0 && s.Leads(f, at(tag, id), l) {
				list = append(list, at(tag, id))
			}
		}
	}
	return list
}

// everything: all nodes of all forms that may be of n variables, right and cut ones, in a store with room for some more.
func everything(t *testing.T, n, more int) *store.Store {
	t.Helper()
	s := made(t, n, []int{0, 10, 82, 1958}[n]+more)
	for bot := n - 1; bot >= 0; bot-- {
		for _, f := range forms {
			below := leading(s, f, bot+1)
			for _, lo := range below {
				for _, hi := range below {
					for top := bot; top >= 0; top-- {
						r := api.Record{Form: f, Top: uint8(top), Bot: uint8(bot), Lo: lo, Hi: hi}
						if node.Right(r, n) {
							found(t, s, r)
						}
					}
				}
			}
		}
	}
	if s.Len() != s.Room()-more {
		t.Fatalf("%d nodes, wanted %d", s.Len(), s.Room()-more)
	}
	return s
}

// mixed: all forms in one store of 4 variables, right and cut diagrams side by side, with room for some more nodes.
func mixed(t *testing.T, more int) *store.Store {
	t.Helper()
	s := made(t, 4, 20+more)
	one := at(0, 1)
	for _, f := range forms {
		low := found(t, s, api.Record{Form: f, Top: 3, Bot: 3, Hi: tagged(f, 1, 4)})
		middle := found(t, s, api.Record{Form: f, Top: 1, Bot: 1, Lo: tagged(f, low, 2), Hi: tagged(f, 1, 2)})
		found(t, s, api.Record{Form: f, Top: 0, Bot: 0, Lo: tagged(f, middle, 1), Hi: tagged(f, low, 3)})
	}
	// Chains of three levels, and ones that are cut in two.
	any3 := found(t, s, api.Record{Form: api.CBDD, Top: 1, Bot: 3, Hi: one})
	found(t, s, api.Record{Form: api.CBDD, Top: 0, Bot: 0, Lo: at(0, any3), Hi: one})
	free3 := found(t, s, api.Record{Form: api.CZDD, Top: 1, Bot: 3, Hi: one})
	found(t, s, api.Record{Form: api.CZDD, Top: 0, Bot: 0, Lo: at(0, free3), Hi: at(0, free3)})
	// A node that a tag alone would tell.
	low, _ := s.Has(api.Record{Form: api.TBDD, Top: 3, Bot: 3, Hi: at(4, 1)})
	found(t, s, api.Record{Form: api.TBDD, Top: 2, Bot: 2, Lo: at(3, low)})
	if s.Len() != 20 {
		t.Fatalf("%d nodes", s.Len())
	}
	return s
}

// cut: a drawn edge of n levels at the level 0 of a form, whose records are any that may be: chains cut anywhere, nodes that tags alone would tell.
func cut(t *testing.T, r *rand.Rand, s *store.Store, f api.Form, count int) api.Edge {
	t.Helper()
	n := s.Vars()
	list := []api.Edge{nothing, tagged(f, 1, n)}
	for range count {
		lo, hi := list[r.Intn(len(list))], list[r.Intn(len(list))]
		if r.Intn(3) == 0 {
			hi = lo
		}
		bot := min(s.Top(lo), s.Top(hi)) - 1
		top := bot
		if node.Chained(f) {
			top -= r.Intn(3)
		}
		rec := api.Record{Form: f, Top: uint8(top), Bot: uint8(bot), Lo: lowered(r, f, lo, bot+1, s), Hi: lowered(r, f, hi, bot+1, s)}
		if top >= 0 && node.Right(rec, n) {
			list = append(list, tagged(f, found(t, s, rec), top))
		}
	}
	return lowered(r, f, list[len(list)-1], 0, s)
}

// lowered: an edge as it may stand at a level: of a TBDD with any tag that it may have there.
func lowered(r *rand.Rand, f api.Form, e api.Edge, l int, s *store.Store) api.Edge {
	if f == api.TBDD && e != nothing {
		e.Tag = uint8(l + r.Intn(s.Top(e)-l+1))
	}
	return e
}

// copied: an edge's nodes in another store.
func copied(t *testing.T, from, to *store.Store, e api.Edge) api.Edge {
	t.Helper()
	r, ok := from.Get(e.At)
	if !ok {
		return e
	}
	r.Lo, r.Hi = copied(t, from, to, r.Lo), copied(t, from, to, r.Hi)
	e.At = found(t, to, r)
	return e
}

// alone: a call in a store of its own, in which no other nodes are than those of its edges, with room for some more.
func alone(t *testing.T, s *store.Store, c call, more int) (*store.Store, call) {
	t.Helper()
	edges := []api.Edge{c.a}
	if c.kind == andExists || c.kind == compose {
		edges = append(edges, c.b)
	} else {
		c.b = nothing
	}
	to := made(t, s.Vars(), len(s.Reach(edges))+more)
	c.a, c.b = copied(t, s, to, c.a), copied(t, s, to, c.b)
	return to, c
}

// none: no edge, and this error.
func none(t *testing.T, what any, e api.Edge, err, want api.Err) {
	t.Helper()
	if e != nothing || err != want {
		t.Fatalf("%+v: %v, %v, wanted %v", what, e, err, want)
	}
}

// noCall: each of the calls, where they must all tell one error, and make no node.
func noCall(t *testing.T, q *Quant, c call, want api.Err) {
	t.Helper()
	size := q.store().Len()
	for c.kind = range kinds {
		e, err := c.ask(q)
		none(t, c, e, err, want)
	}
	if levels, err := q.Support(c.f, c.a); levels != 0 || err != want {
		t.Fatalf("Support(%d, %v): %d, %v, wanted %v", c.f, c.a, levels, err, want)
	}
	if q.store().Len() != size {
		t.Fatalf("%d nodes, were %d", q.store().Len(), size)
	}
}

// noForms: what is no form.
func noForms() []api.Form {
	list := []api.Form{0}
	for f := 6; f < 256; f++ {
		list = append(list, api.Form(f))
	}
	return list
}

// noLevels: what is no level of n at which a node may stand.
func noLevels(n int) []int {
	return []int{-1, -2, -n - 1, n, n + 1, n + 2, n + 16, 17, 64, 64 + n, 256, 256 + n, 1 << 16, 1 << 32, math.MaxInt, math.MaxInt - 1, math.MinInt, math.MinInt + 1, -1 << 32}
}

// noBits: levels, some of which aren't ones of n.
func noBits(n int) []uint16 {
	var list []uint16
	for k := n; k < 16; k++ {
		list = append(list, 1<<k, 1<<k|1, 1<<k|uint16(1<<n-1), 1<<16-1)
	}
	return list
}
