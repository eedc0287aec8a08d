package bdd

import (
	"math"
	"math/rand"
	"strings"
	"testing"

	"ramage/api"
	"ramage/node"
	"ramage/store"
)

var (
	nothing = api.Edge{}
	one     = api.Edge{At: 1}
)

// at: an edge without a tag.
func at(id uint32) api.Edge { return api.Edge{At: id} }

// made: a store.
func made(t *testing.T, n, room int) *store.Store {
	t.Helper()
	s, err := store.New(n, room)
	if err != api.OK || s == nil {
		t.Fatalf("New(%d, %d): %v", n, room, err)
	}
	return s
}

// found: an edge to the node of a record that is right.
func found(t *testing.T, s *store.Store, r api.Record) api.Edge {
	t.Helper()
	id, err := s.Find(r)
	if err != api.OK {
		t.Fatalf("Find(%v): %v", r, err)
	}
	return at(id)
}

// make1: Make, where it must tell an edge.
func make1(t *testing.T, s *store.Store, l int, lo, hi api.Edge) api.Edge {
	t.Helper()
	e, err := Make(s, l, lo, hi)
	if err != api.OK {
		t.Fatalf("Make(%d, %v, %v): %v", l, lo, hi, err)
	}
	return e
}

// view1: View, where it must tell halves.
func view1(t *testing.T, s *store.Store, e api.Edge, l int) (lo, hi api.Edge) {
	t.Helper()
	lo, hi, err := View(s, e, l)
	if err != api.OK {
		t.Fatalf("View(%v, %d): %v", e, l, err)
	}
	return lo, hi
}

// levels of n variables, that of the terminals too, and numbers that are none.
func levels(n int) []int {
	l := []int{-1, -2, n + 1, n + 2, 16, 17, 255, 256, 256 + n, 1 << 32, 1<<32 + n, -1 << 32, math.MaxInt, math.MaxInt - 1, math.MinInt, math.MinInt + 1, math.MinInt + n}
	for i := range n + 1 {
		l = append(l, i)
	}
	return l
}

// anyEdges: edges to nothing, to one, to each id up to the last one and some behind it, with tags and without.
func anyEdges(last uint32) []api.Edge {
	ids := []uint32{1 << 20, 1<<20 + 1, 1 << 31, math.MaxUint32 - 1, math.MaxUint32}
	for id := range last + 3 {
		ids = append(ids, id)
	}
	var l []api.Edge
	for _, id := range ids {
		for _, tag := range []uint8{0, 1, 2, 3, 16, 255} {
			l = append(l, api.Edge{At: id, Tag: tag})
		}
	}
	return l
}

// records of all nodes, by ids.
func records(s *store.Store) map[uint32]api.Record {
	all := map[uint32]api.Record{}
	for id := range s.Ids() {
		r, _ := s.Get(id)
		all[id] = r
	}
	return all
}

// sameNodes: has a store these nodes still?
func sameNodes(t *testing.T, s *store.Store, old map[uint32]api.Record) {
	t.Helper()
	now := records(s)
	if len(now) != len(old) || s.Len() != len(old) {
		t.Fatalf("%d nodes, were %d", s.Len(), len(old))
	}
	for id, r := range old {
		if now[id] != r {
			t.Fatalf("node %d is %v, was %v", id, now[id], r)
		}
	}
}

// meaning: what an edge means, as the Words tell it: a text of 0 and 1, one of these for each assignment of the levels from l on, the level l as its highest bit.
func meaning(s *store.Store, e api.Edge, l int) string {
	n := s.Vars()
	switch e.At {
	case 0:
		return strings.Repeat("0", 1<<(n-l))
	case 1:
		return strings.Repeat("1", 1<<(n-l))
	}
	r, _ := s.Get(e.At)
	t := int(r.Top)
	return strings.Repeat(meaning(s, r.Lo, t+1)+meaning(s, r.Hi, t+1), 1<<(t-l))
}

// leads: does an edge, as the Words of the chapters 10 and 11 tell it?
func leads(s *store.Store, e api.Edge, l int) bool {
	if s == nil || l < 0 || l > s.Vars() || e.Tag != 0 {
		return false
	}
	if e.At == 0 || e.At == 1 {
		return true
	}
	r, ok := s.Get(e.At)
	return ok && r.Form == api.BDD && int(r.Top) >= l
}

// orders in which the halves of a set may be made.
const (
	lowFirst = iota
	highFirst
	drawn
)

// build the diagram of a table from below; an error is Make's first one.
func build(s *store.Store, table string, l, way int) (api.Edge, api.Err) {
	if l == s.Vars() {
		return at(uint32(table[0] - '0')), api.OK
	}
	half := len(table) / 2
	var edges [2]api.Edge
	first := way
	if way == drawn {
		first = strings.Count(table, "1") % 2
	}
	for i := range 2 {
		which := i ^ first
		e, err := build(s, table[which*half:(which+1)*half], l+1, way)
		if err != api.OK {
			return api.Edge{}, err
		}
		edges[which] = e
	}
	return Make(s, l, edges[0], edges[1])
}

// built: likewise, where there must be room.
func built(t *testing.T, s *store.Store, table string, l, way int) api.Edge {
	t.Helper()
	e, err := build(s, table, l, way)
	if err != api.OK {
		t.Fatalf("build(%s, %d): %v", table, l, err)
	}
	return e
}

// byLevels: the diagram of a table, all edges of a level before those of the level above it.
func byLevels(t *testing.T, s *store.Store, table string) api.Edge {
	t.Helper()
	var row []api.Edge
	for _, bit := range table {
		row = append(row, at(uint32(bit-'0')))
	}
	for l := s.Vars() - 1; l >= 0; l-- {
		var above []api.Edge
		for i := 0; i < len(row); i += 2 {
			above = append(above, make1(t, s, l, row[i], row[i+1]))
		}
		row = above
	}
	return row[0]
}

// nodesOf a table's diagram: how many different tables of its parts have unlike halves.
func nodesOf(table string) int {
	seen := map[string]bool{}
	var walk func(part string)
	walk = func(part string) {
		half := len(part) / 2
		if half == 0 || seen[part] {
			return
		}
		if part[:half] == part[half:] {
			walk(part[:half])
			return
		}
		seen[part] = true
		walk(part[:half])
		walk(part[half:])
	}
	walk(table)
	return len(seen)
}

// table of a number's lowest bits.
func table(x uint64, size int) string {
	b := make([]byte, size)
	for i := range b {
		b[i] = '0' + byte(x>>i&1)
	}
	return string(b)
}

// draw a table of so many levels: some even, some sparse, some dense, some made of few parts.
func draw(r *rand.Rand, l int) string {
	size := 1 << l
	kind := r.Intn(4)
	if kind == 3 && l > 2 {
		parts := []string{draw(r, l-2), draw(r, l-2)}
		var b strings.Builder
		for range 4 {
			b.WriteString(parts[r.Intn(2)])
		}
		return b.String()
	}
	limit := []int{4, 1, 7, 4}[kind]
	b := make([]byte, size)
	for i := range b {
		b[i] = '0'
		if r.Intn(8) < limit {
			b[i] = '1'
		}
	}
	return string(b)
}

// full: all sets of n variables, in a store with room for just their nodes.
func full(t *testing.T, n int) *store.Store {
	t.Helper()
	size := 1 << n
	s := made(t, n, 1<<size-2)
	for x := range uint64(1) << size {
		built(t, s, table(x, size), 0, lowFirst)
	}
	if s.Len() != s.Room() {
		t.Fatalf("%d nodes of %d", s.Len(), s.Room())
	}
	return s
}

// mixed: a store with nodes of all forms, those of BDDs among them told, and the id of the last one.
func mixed(t *testing.T) (s *store.Store, low, top api.Edge, last uint32) {
	t.Helper()
	s = made(t, 3, 20)
	found(t, s, api.Record{Form: api.ZDD, Top: 2, Bot: 2, Lo: nothing, Hi: one})
	low = found(t, s, api.Record{Form: api.BDD, Top: 2, Bot: 2, Lo: nothing, Hi: one})
	found(t, s, api.Record{Form: api.CBDD, Top: 1, Bot: 2, Lo: nothing, Hi: one})
	found(t, s, api.Record{Form: api.CZDD, Top: 0, Bot: 2, Lo: one, Hi: one})
	top = found(t, s, api.Record{Form: api.BDD, Top: 0, Bot: 0, Lo: low, Hi: one})
	end := api.Edge{At: 1, Tag: 3}
	last = found(t, s, api.Record{Form: api.TBDD, Top: 2, Bot: 2, Lo: nothing, Hi: end}).At
	return s, low, top, last
}

func TestMakeAndView(t *testing.T) { // P12.1 and P12.2: the chapter's example, by hand
	s := made(t, 3, 10)
	x := make1(t, s, 1, nothing, one)
	if again := make1(t, s, 1, nothing, one); again != x || x != at(2) || s.Len() != 1 {
		t.Errorf("Make tells %v, then %v, of %d nodes", x, again, s.Len())
	}
	y := make1(t, s, 1, one, nothing)
	z := make1(t, s, 0, x, y)
	if y != at(3) || z != at(4) || s.Len() != 3 {
		t.Errorf("Make tells %v, %v", y, z)
	}
	for e, want := range map[api.Edge]api.Record{
		x: {Form: api.BDD, Top: 1, Bot: 1, Lo: nothing, Hi: one},
		y: {Form: api.BDD, Top: 1, Bot: 1, Lo: one, Hi: nothing},
		z: {Form: api.BDD, Top: 0, Bot: 0, Lo: x, Hi: y},
	} {
		if r, ok := s.Get(e.At); !ok || r != want {
			t.Errorf("node %d is %s, wanted %s", e.At, node.Text(r), node.Text(want))
		}
	}
	if lo, hi := view1(t, s, z, 0); lo != x || hi != y {
		t.Errorf("View(z, 0): %v, %v", lo, hi)
	}
	if lo, hi := view1(t, s, x, 0); lo != x || hi != x {
		t.Errorf("View(x, 0): %v, %v", lo, hi)
	}
	if lo, hi := view1(t, s, x, 1); lo != nothing || hi != one {
		t.Errorf("View(x, 1): %v, %v", lo, hi)
	}
}

func TestMakeSame(t *testing.T) { // P12.1: halves that are the same are the edge, in a store without room, too
	for n := 1; n <= api.MaxVars; n++ {
		s := made(t, n, 0)
		for l := range n {
			for _, e := range []api.Edge{nothing, one} {
				if got, err := Make(s, l, e, e); got != e || err != api.OK || s.Len() != 0 {
					t.Errorf("n %d: Make(%d, %v, %v): %v, %v", n, l, e, e, got, err)
				}
			}
			if got, err := Make(s, l, nothing, one); got != nothing || err != api.Full || s.Len() != 0 {
				t.Errorf("n %d: Make(%d, nothing, one): %v, %v", n, l, got, err)
			}
		}
	}
	s := full(t, 3)
	old := records(s)
	for id, r := range old {
		for l := range int(r.Top) {
			if got := make1(t, s, l, at(id), at(id)); got != at(id) {
				t.Errorf("Make(%d, %d, %d): %v", l, id, id, got)
			}
		}
	}
	sameNodes(t, s, old)
}

func TestEachPair(t *testing.T) { // P12.1 and P12.2: all halves of small stores, at each level, by the Words
	for n := 1; n <= 3; n++ {
		s := full(t, n)
		old := records(s)
		last := uint32(s.Len() + 1)
		for l := range n {
			for lo := range last + 1 {
				for hi := range last + 1 {
					pair(t, s, l, at(lo), at(hi))
				}
			}
		}
		sameNodes(t, s, old)
	}
}

// pair: these halves, whose node is there in a full store.
func pair(t *testing.T, s *store.Store, l int, lo, hi api.Edge) {
	t.Helper()
	e, err := Make(s, l, lo, hi)
	if !leads(s, lo, l+1) || !leads(s, hi, l+1) {
		if e != nothing || err != api.Arg {
			t.Fatalf("Make(%d, %v, %v): %v, %v", l, lo, hi, e, err)
		}
		return
	}
	if want := meaning(s, lo, l+1) + meaning(s, hi, l+1); err != api.OK || !leads(s, e, l) || meaning(s, e, l) != want {
		t.Fatalf("Make(%d, %v, %v): %v, %v, wanted %s", l, lo, hi, e, err, want)
	}
	if a, b := view1(t, s, e, l); a != lo || b != hi {
		t.Fatalf("View(%v, %d): %v, %v, wanted %v, %v", e, l, a, b, lo, hi)
	}
}

func TestEachEdge(t *testing.T) { // P12.2 to P12.4: all edges at all levels, in a store with no room left
	for n := range 4 {
		s := full(t, n)
		old := records(s)
		for _, e := range anyEdges(uint32(s.Len() + 1)) {
			for _, l := range levels(n) {
				edge(t, s, e, l)
			}
		}
		sameNodes(t, s, old)
	}
}

// edge: what View and Right tell of an edge, and Make of that.
func edge(t *testing.T, s *store.Store, e api.Edge, l int) {
	t.Helper()
	right := leads(s, e, l)
	if Right(s, e, l) != right {
		t.Fatalf("Right(%v, %d) is %v", e, l, !right)
	}
	want := api.OK
	if l < 0 || l >= s.Vars() {
		want = api.Var
	} else if !right {
		want = api.Arg
	}
	lo, hi, err := View(s, e, l)
	if err != want {
		t.Fatalf("View(%v, %d): %v, wanted %v", e, l, err, want)
	}
	if want != api.OK {
		if lo != nothing || hi != nothing {
			t.Fatalf("View(%v, %d): %v, %v beside %v", e, l, lo, hi, err)
		}
		return
	}
	if !Right(s, lo, l+1) || !Right(s, hi, l+1) || meaning(s, lo, l+1)+meaning(s, hi, l+1) != meaning(s, e, l) {
		t.Fatalf("View(%v, %d): %v, %v", e, l, lo, hi)
	}
	if again := make1(t, s, l, lo, hi); again != e {
		t.Fatalf("Make(%d, %v, %v) is %v, was %v", l, lo, hi, again, e)
	}
}

func TestDownToTheEnd(t *testing.T) { // P12.1 and P12.2: each edge viewed level by level, down to nothing and one
	r := rand.New(rand.NewSource(12))
	for n := range 11 {
		s := made(t, n, api.MaxRoom)
		for range 6 {
			want := draw(r, n)
			e := built(t, s, want, 0, lowFirst)
			old := records(s)
			if got := viewed(t, s, e, 0); got != want || meaning(s, e, 0) != want {
				t.Fatalf("n %d: the edge of %s means %s", n, want, got)
			}
			sameNodes(t, s, old)
		}
	}
}

// viewed: the table that View tells, from l down; Make of its halves tells the edge again.
func viewed(t *testing.T, s *store.Store, e api.Edge, l int) string {
	t.Helper()
	if !Right(s, e, l) {
		t.Fatalf("Right(%v, %d) is false", e, l)
	}
	if l == s.Vars() {
		if e != nothing && e != one {
			t.Fatalf("%v at the end", e)
		}
		return string('0' + byte(e.At))
	}
	lo, hi := view1(t, s, e, l)
	if again := make1(t, s, l, lo, hi); again != e {
		t.Fatalf("Make(%d, %v, %v) is %v, was %v", l, lo, hi, again, e)
	}
	return viewed(t, s, lo, l+1) + viewed(t, s, hi, l+1)
}

func TestWrongMake(t *testing.T) { // P12.1: the first error that holds, and no node beside it
	s, low, top, last := mixed(t)
	old := records(s)
	leading := []api.Edge{nothing, one, low}
	for _, l := range levels(3) {
		for _, lo := range anyEdges(last) {
			for _, hi := range append(leading, top, api.Edge{At: 1, Tag: 1}, at(2), at(last), at(last+1)) {
				wrongMake(t, s, l, lo, hi)
				wrongMake(t, s, l, hi, lo)
			}
			wrongMake(t, s, l, lo, lo)
		}
	}
	sameNodes(t, s, old)
	for _, lo := range anyEdges(9) {
		for _, l := range levels(3) {
			if e, err := Make(nil, l, lo, one); e != nothing || err != api.Nil {
				t.Fatalf("Make(nil, %d, %v, one): %v, %v", l, lo, e, err)
			}
		}
	}
}

// wrongMake: of halves, if an error holds.
func wrongMake(t *testing.T, s *store.Store, l int, lo, hi api.Edge) {
	t.Helper()
	want := api.OK
	if l < 0 || l >= s.Vars() {
		want = api.Var
	} else if !leads(s, lo, l+1) || !leads(s, hi, l+1) {
		want = api.Arg
	}
	if want == api.OK {
		return
	}
	if e, err := Make(s, l, lo, hi); e != nothing || err != want {
		t.Fatalf("Make(%d, %v, %v): %v, %v, wanted %v", l, lo, hi, e, err, want)
	}
}

func TestErrorsByHand(t *testing.T) { // P12.1 and P12.2: one by one
	s, low, top, last := mixed(t)
	tagged, otherForm, noNode := api.Edge{At: low.At, Tag: 1}, at(2), at(last+9)
	for _, c := range []struct {
		s      *store.Store
		l      int
		lo, hi api.Edge
		want   api.Err
	}{
		{nil, -1, tagged, noNode, api.Nil},
		{nil, 0, nothing, one, api.Nil},
		{s, -1, tagged, noNode, api.Var},
		{s, 3, tagged, tagged, api.Var},
		{s, 3, nothing, one, api.Var},
		{s, math.MaxInt, nothing, one, api.Var},
		{s, math.MinInt, one, one, api.Var},
		{s, 256, nothing, one, api.Var},
		{s, 0, tagged, one, api.Arg},
		{s, 0, one, tagged, api.Arg},
		{s, 0, tagged, tagged, api.Arg},
		{s, 0, api.Edge{Tag: 1}, one, api.Arg},
		{s, 0, one, api.Edge{At: 1, Tag: 3}, api.Arg},
		{s, 0, otherForm, one, api.Arg},
		{s, 0, one, otherForm, api.Arg},
		{s, 0, otherForm, otherForm, api.Arg},
		{s, 0, noNode, one, api.Arg},
		{s, 0, one, noNode, api.Arg},
		{s, 0, noNode, noNode, api.Arg},
		{s, 2, low, one, api.Arg},
		{s, 2, one, low, api.Arg},
		{s, 2, low, low, api.Arg},
		{s, 0, top, one, api.Arg},
		{s, 0, top, top, api.Arg},
		{s, 1, low, one, api.OK},
		{s, 1, low, low, api.OK},
	} {
		if e, err := Make(c.s, c.l, c.lo, c.hi); err != c.want || err != api.OK && e != nothing {
			t.Errorf("Make(%d, %v, %v): %v, %v, wanted %v", c.l, c.lo, c.hi, e, err, c.want)
		}
	}
	for _, c := range []struct {
		s    *store.Store
		e    api.Edge
		l    int
		want api.Err
	}{
		{nil, noNode, -1, api.Nil},
		{nil, one, 0, api.Nil},
		{s, noNode, -1, api.Var},
		{s, tagged, 3, api.Var},
		{s, one, 3, api.Var},
		{s, one, math.MaxInt, api.Var},
		{s, one, math.MinInt, api.Var},
		{s, low, 256, api.Var},
		{s, tagged, 0, api.Arg},
		{s, otherForm, 0, api.Arg},
		{s, noNode, 0, api.Arg},
		{s, api.Edge{Tag: 1}, 0, api.Arg},
		{s, api.Edge{At: 1, Tag: 3}, 0, api.Arg},
		{s, top, 1, api.Arg},
		{s, top, 0, api.OK},
		{s, low, 2, api.OK},
		{s, low, 0, api.OK},
	} {
		if lo, hi, err := View(c.s, c.e, c.l); err != c.want || err != api.OK && (lo != nothing || hi != nothing) {
			t.Errorf("View(%v, %d): %v, %v, %v, wanted %v", c.e, c.l, lo, hi, err, c.want)
		}
	}
}

func TestOtherForms(t *testing.T) { // P12.1 to P12.3: beside nodes of other forms, and behind them
	s, low, top, last := mixed(t)
	for _, e := range anyEdges(last) {
		for _, l := range levels(3) {
			edge(t, s, e, l)
		}
	}
	for id := range last + 2 {
		want := id < 2 || id == low.At || id == top.At
		if Right(s, at(id), 0) != want {
			t.Errorf("Right(%d, 0) is %v", id, !want)
		}
	}
	if e := make1(t, s, 2, nothing, one); e != low {
		t.Errorf("Make tells %v of a set whose edge is %v", e, low)
	}
	if e := make1(t, s, 2, one, nothing); e != at(last+1) {
		t.Errorf("Make tells %v, wanted the id %d", e, last+1)
	}
}

func TestNoVariables(t *testing.T) { // P12.1 to P12.3: of a store for 0 variables, and of one that New didn't make
	for _, s := range []*store.Store{made(t, 0, 5), {}, new(store.Store)} {
		for _, e := range anyEdges(3) {
			for _, l := range levels(0) {
				if got, err := Make(s, l, e, one); got != nothing || err != api.Var {
					t.Fatalf("Make(%d, %v, one): %v, %v", l, e, got, err)
				}
				edge(t, s, e, l)
			}
		}
		if !Right(s, one, 0) || !Right(s, nothing, 0) || Right(s, one, 1) || s.Len() != 0 {
			t.Error("nothing and one are right at the level 0 alone")
		}
	}
}

func TestNil(t *testing.T) { // P12.1 to P12.3: of a nil store
	for _, e := range anyEdges(3) {
		for _, l := range levels(0) {
			if got, err := Make(nil, l, e, e); got != nothing || err != api.Nil {
				t.Fatalf("Make(nil, %d, %v): %v, %v", l, e, got, err)
			}
			if lo, hi, err := View(nil, e, l); lo != nothing || hi != nothing || err != api.Nil {
				t.Fatalf("View(nil, %v, %d): %v, %v, %v", e, l, lo, hi, err)
			}
			if Right(nil, e, l) {
				t.Fatalf("Right(nil, %v, %d)", e, l)
			}
		}
	}
}

func TestSixteen(t *testing.T) { // P12.1 to P12.5: that at least one of sixteen is 1, or none
	for _, room := range []int{16, 15} {
		for _, ends := range [][2]api.Edge{{nothing, one}, {one, nothing}} {
			s := made(t, 16, room)
			e := ends[0]
			for l := 15; l > 0; l-- {
				e = make1(t, s, l, e, ends[1])
				if s.Top(e) != l || s.Len() != 16-l || !Right(s, e, l) || Right(s, e, l+1) {
					t.Fatalf("level %d: %v, of %d nodes", l, e, s.Len())
				}
			}
			got, err := Make(s, 0, e, ends[1])
			if room == 16 && (err != api.OK || s.Len() != 16 || s.Top(got) != 0) {
				t.Errorf("Make: %v, %v", got, err)
			}
			if room == 15 && (err != api.Full || got != nothing || s.Len() != 15) {
				t.Errorf("Make without room: %v, %v", got, err)
			}
		}
	}
	s := made(t, 16, 0)
	e := one
	for l := 15; l >= 0; l-- {
		e = make1(t, s, l, e, e)
	}
	if e != one {
		t.Errorf("all assignments: %v", e)
	}
}

func TestOrders(t *testing.T) { // P12.1: 0 and 2, or 1 and 3: 6 nodes; its variables in another order: 4
	for _, c := range []struct{ a, b, nodes int }{{2, 1, 6}, {1, 2, 4}} {
		var b strings.Builder
		for x := range 16 {
			bit := func(level int) bool { return x>>(3-level)&1 == 1 }
			if bit(0) && bit(c.a) || bit(c.b) && bit(3) {
				b.WriteString("1")
			} else {
				b.WriteString("0")
			}
		}
		s := made(t, 4, c.nodes)
		e := built(t, s, b.String(), 0, lowFirst)
		if got := len(s.Reach([]api.Edge{e})); got != c.nodes || s.Len() != c.nodes {
			t.Errorf("%d nodes, %d reached, wanted %d", s.Len(), got, c.nodes)
		}
	}
}

func TestFull(t *testing.T) { // P12.1: a node that is there is told still, a new one tells Full
	s := made(t, 3, 2)
	low := make1(t, s, 2, nothing, one)
	top := make1(t, s, 0, low, one)
	old := records(s)
	for range 3 {
		if got := make1(t, s, 2, nothing, one); got != low {
			t.Errorf("Make: %v, was %v", got, low)
		}
		if got := make1(t, s, 0, low, one); got != top {
			t.Errorf("Make: %v, was %v", got, top)
		}
		if got := make1(t, s, 1, low, low); got != low {
			t.Errorf("Make: %v, wanted %v", got, low)
		}
		for _, c := range []struct {
			l      int
			lo, hi api.Edge
		}{{2, one, nothing}, {1, nothing, one}, {1, low, one}, {0, one, low}, {0, low, nothing}, {1, one, low}} {
			if got, err := Make(s, c.l, c.lo, c.hi); got != nothing || err != api.Full {
				t.Errorf("Make(%d, %v, %v): %v, %v", c.l, c.lo, c.hi, got, err)
			}
		}
		// An edge that doesn't lead is looked for before room is.
		if got, err := Make(s, 0, top, one); got != nothing || err != api.Arg {
			t.Errorf("Make(0, top, one): %v, %v", got, err)
		}
		sameNodes(t, s, old)
	}
	s.Sweep([]api.Edge{low})
	if got := make1(t, s, 1, low, one); got != top {
		t.Errorf("behind Sweep: %v, wanted the id that came free", got)
	}
}

func TestSwept(t *testing.T) { // P12.1 to P12.3: an edge whose node went leads nowhere
	s := made(t, 3, 5)
	low := make1(t, s, 2, nothing, one)
	if gone := s.Sweep(nil); gone != 1 {
		t.Fatalf("%d went", gone)
	}
	if Right(s, low, 0) || Right(s, low, 2) {
		t.Error("right, without a node")
	}
	if e, err := Make(s, 0, low, one); e != nothing || err != api.Arg {
		t.Errorf("Make: %v, %v", e, err)
	}
	if lo, hi, err := View(s, low, 0); lo != nothing || hi != nothing || err != api.Arg {
		t.Errorf("View: %v, %v, %v", lo, hi, err)
	}
}

func TestOneEdgeASet(t *testing.T) { // P12.4: two edges that are right at one level mean one set just if they are the same
	for n := range 4 {
		s := full(t, n)
		last := uint32(s.Len() + 1)
		for l := range n + 1 {
			of := map[string]api.Edge{}
			for id := range last + 1 {
				if !Right(s, at(id), l) {
					continue
				}
				set := meaning(s, at(id), l)
				if other, ok := of[set]; ok {
					t.Fatalf("n %d, level %d: %v and %d mean %s", n, l, other, id, set)
				}
				of[set] = at(id)
			}
			if sets := 1 << (1 << (n - l)); len(of) != sets {
				t.Fatalf("n %d, level %d: edges of %d sets, wanted %d", n, l, len(of), sets)
			}
		}
	}
}

func TestDrawnTwice(t *testing.T) { // P12.4: sets drawn, made again in other orders, in one store
	r := rand.New(rand.NewSource(124))
	for n := range 9 {
		s := made(t, n, api.MaxRoom)
		of := map[string]api.Edge{}
		sets := map[api.Edge]string{}
		for range 40 {
			l := r.Intn(n + 1)
			want := draw(r, n-l)
			e := built(t, s, want, l, r.Intn(3))
			if len(want) == 1<<n {
				if again := byLevels(t, s, want); again != e {
					t.Fatalf("%s is %v, then %v", want, e, again)
				}
			}
			for way := range 3 {
				if again := built(t, s, want, l, way); again != e {
					t.Fatalf("%s is %v, then %v", want, e, again)
				}
			}
			if !Right(s, e, l) || meaning(s, e, l) != want {
				t.Fatalf("%s at %d: %v", want, l, e)
			}
			// At the level 0 what is above l may have any value.
			whole := strings.Repeat(want, 1<<l)
			if old, ok := of[whole]; ok && old != e {
				t.Fatalf("%s is %v, and %v", whole, old, e)
			}
			if old, ok := sets[e]; ok && old != whole {
				t.Fatalf("%v means %s, and %s", e, old, whole)
			}
			of[whole], sets[e] = e, whole
		}
	}
}

func TestRoom(t *testing.T) { // P12.5: room for just its nodes is enough, one less isn't
	r := rand.New(rand.NewSource(125))
	for n := range 11 {
		for range 12 {
			set := draw(r, n)
			count := nodesOf(set)
			for way := range 3 {
				s := made(t, n, count)
				e := built(t, s, set, 0, way)
				if s.Len() != count || len(s.Reach([]api.Edge{e})) != count || meaning(s, e, 0) != set {
					t.Fatalf("%s: %d nodes, wanted %d", set, s.Len(), count)
				}
				old := records(s)
				if again := built(t, s, set, 0, (way+1)%3); again != e || viewed(t, s, e, 0) != set {
					t.Fatalf("%s in a full store: %v, was %v", set, again, e)
				}
				sameNodes(t, s, old)
				if count == 0 {
					continue
				}
				s = made(t, n, count-1)
				if e, err := build(s, set, 0, way); e != nothing || err != api.Full || s.Len() != count-1 {
					t.Fatalf("%s with room for one less: %v, %v, %d nodes", set, e, err, s.Len())
				}
			}
		}
	}
}

func TestDrawnCalls(t *testing.T) { // P12.1 to P12.4, R2: a long run of drawn calls, in stores of little room
	r := rand.New(rand.NewSource(1204))
	for n := range 6 {
		for _, room := range []int{0, 1, 3, 10, 40} {
			s := made(t, n, room)
			for range 800 {
				drawnCall(t, r, s)
			}
		}
	}
}

// drawnCall: one call, held against the Words; now and then what isn't reached goes.
func drawnCall(t *testing.T, r *rand.Rand, s *store.Store) {
	t.Helper()
	pick := func() api.Edge {
		e := at(uint32(r.Intn(s.Room() + 3)))
		if r.Intn(20) == 0 {
			e.Tag = uint8(r.Intn(4))
		}
		return e
	}
	l, lo, hi := r.Intn(s.Vars()+3)-1, pick(), pick()
	if r.Intn(200) == 0 {
		s.Sweep([]api.Edge{lo, hi})
	}
	edge0, old := pick(), records(s)
	if _, _, err := View(s, edge0, l); err == api.OK {
		edge(t, s, edge0, l)
	}
	sameNodes(t, s, old)
	e, err := Make(s, l, lo, hi)
	switch {
	case l < 0 || l >= s.Vars():
		if err != api.Var || e != nothing {
			t.Fatalf("Make(%d, %v, %v): %v, %v", l, lo, hi, e, err)
		}
	case !leads(s, lo, l+1) || !leads(s, hi, l+1):
		if err != api.Arg || e != nothing {
			t.Fatalf("Make(%d, %v, %v): %v, %v", l, lo, hi, e, err)
		}
	case err == api.Full:
		want := api.Record{Form: api.BDD, Top: uint8(l), Bot: uint8(l), Lo: lo, Hi: hi}
		if _, ok := s.Has(want); ok || lo == hi || e != nothing || len(old) < s.Room() {
			t.Fatalf("Make(%d, %v, %v): Full, of %d nodes", l, lo, hi, len(old))
		}
	default:
		if err != api.OK || meaning(s, e, l) != meaning(s, lo, l+1)+meaning(s, hi, l+1) {
			t.Fatalf("Make(%d, %v, %v): %v, %v", l, lo, hi, e, err)
		}
		_, was := old[e.At]
		if !was && e.At > 1 {
			r, _ := s.Get(e.At)
			old[e.At] = r
		}
	}
	sameNodes(t, s, old)
}
