package zdd

import (
	"math"
	"math/rand"
	"strings"
	"testing"

	"ramage/api"
	"ramage/node"
	"ramage/store"
)

var (
	nothing = api.Edge{}
	one     = api.Edge{At: 1}
)

// at: an edge without a tag.
func at(id uint32) api.Edge { return api.Edge{At: id} }

// record of a node.
func record(l int, lo, hi api.Edge) api.Record {
	return api.Record{Form: api.ZDD, Top: uint8(l), Bot: uint8(l), Lo: lo, Hi: hi}
}

// made: a store.
func made(t *testing.T, n, room int) *store.Store {
	t.Helper()
	s, err := store.New(n, room)
	if err != api.OK || s == nil {
		t.Fatalf("New(%d, %d): %v", n, room, err)
	}
	return s
}

// found: an edge to the node of a record that is right.
func found(t *testing.T, s *store.Store, r api.Record) api.Edge {
	t.Helper()
	id, err := s.Find(r)
	if err != api.OK {
		t.Fatalf("Find(%v): %v", r, err)
	}
	return at(id)
}

// make1: Make, where it must tell an edge.
func make1(t *testing.T, s *store.Store, l int, lo, hi api.Edge) api.Edge {
	t.Helper()
	e, err := Make(s, l, lo, hi)
	if err != api.OK {
		t.Fatalf("Make(%d, %v, %v): %v", l, lo, hi, err)
	}
	return e
}

// noMake: Make, where it must tell an error.
func noMake(t *testing.T, s *store.Store, l int, lo, hi api.Edge, want api.Err) {
	t.Helper()
	if e, err := Make(s, l, lo, hi); e != nothing || err != want {
		t.Fatalf("Make(%d, %v, %v): %v, %v, wanted %v", l, lo, hi, e, err, want)
	}
}

// halves: View, where it must tell these.
func halves(t *testing.T, s *store.Store, e api.Edge, l int, lo, hi api.Edge) {
	t.Helper()
	if a, b, err := View(s, e, l); a != lo || b != hi || err != api.OK {
		t.Fatalf("View(%v, %d): %v, %v, %v, wanted %v, %v", e, l, a, b, err, lo, hi)
	}
}

// noView: View, where it must tell an error.
func noView(t *testing.T, s *store.Store, e api.Edge, l int, want api.Err) {
	t.Helper()
	if lo, hi, err := View(s, e, l); lo != nothing || hi != nothing || err != want {
		t.Fatalf("View(%v, %d): %v, %v, %v, wanted %v", e, l, lo, hi, err, want)
	}
}

// levels of n variables, that of the terminals too, and numbers that are none.
func levels(n int) []int {
	l := []int{-1, -2, n + 1, n + 2, 16, 17, 255, 256, 256 + n, 1 << 32, 1<<32 + n, -1 << 32, math.MaxInt, math.MaxInt - 1, math.MinInt, math.MinInt + 1, math.MinInt + n}
	for i := range n + 1 {
		l = append(l, i)
	}
	return l
}

// anyEdges: edges to nothing, to one, to each id up to the last one and some behind it, with tags and without.
func anyEdges(last uint32) []api.Edge {
	ids := []uint32{1 << 20, 1<<20 + 1, 1 << 31, math.MaxUint32 - 1, math.MaxUint32}
	for id := range last + 3 {
		ids = append(ids, id)
	}
	var l []api.Edge
	for _, id := range ids {
		for _, tag := range []uint8{0, 1, 2, 3, 16, 255} {
			l = append(l, api.Edge{At: id, Tag: tag})
		}
	}
	return l
}

// records of all nodes, by ids.
func records(s *store.Store) map[uint32]api.Record {
	all := map[uint32]api.Record{}
	for id := range s.Ids() {
		r, _ := s.Get(id)
		all[id] = r
	}
	return all
}

// sameNodes: has a store these nodes still, and no others?
func sameNodes(t *testing.T, s *store.Store, old map[uint32]api.Record) {
	t.Helper()
	now := records(s)
	if len(now) != len(old) || s.Len() != len(old) {
		t.Fatalf("%d nodes, were %d", s.Len(), len(old))
	}
	for id, r := range old {
		if now[id] != r {
			t.Fatalf("node %d is %v, was %v", id, now[id], r)
		}
	}
}

// noughts: a table's part in which there is nothing.
func noughts(size int) string { return strings.Repeat("0", size) }

// meaning: what an edge means, as the Words tell it: a text of 0 and 1, one of these for each assignment of the levels from l on, the level l as its highest bit.
func meaning(s *store.Store, e api.Edge, l int) string {
	size := 1 << (s.Vars() - l)
	switch e.At {
	case 0:
		return noughts(size)
	case 1:
		return "1" + noughts(size-1)
	}
	r, _ := s.Get(e.At)
	below := int(r.Top) + 1
	part := meaning(s, r.Lo, below) + meaning(s, r.Hi, below)
	return part + noughts(size-len(part))
}

// leads: does an edge, as the Words of the chapters 10 and 11 tell it?
func leads(s *store.Store, e api.Edge, l int) bool {
	if s == nil || l < 0 || l > s.Vars() || e.Tag != 0 {
		return false
	}
	if e.At == 0 || e.At == 1 {
		return true
	}
	r, ok := s.Get(e.At)
	return ok && r.Form == api.ZDD && int(r.Top) >= l
}

// wrong: the error of a level, and of edges at another one; OK if none holds.
func wrong(s *store.Store, l, where int, edges ...api.Edge) api.Err {
	if s == nil {
		return api.Nil
	}
	if l < 0 || l >= s.Vars() {
		return api.Var
	}
	for _, e := range edges {
		if !leads(s, e, where) {
			return api.Arg
		}
	}
	return api.OK
}

// orders in which the halves of a set may be made.
const (
	lowFirst = iota
	highFirst
	drawn
)

// build the diagram of a table from below; an error is Make's first one.
func build(s *store.Store, table string, l, way int) (api.Edge, api.Err) {
	if l == s.Vars() {
		return at(uint32(table[0] - '0')), api.OK
	}
	half := len(table) / 2
	var edges [2]api.Edge
	first := way
	if way == drawn {
		first = strings.Count(table, "1") % 2
	}
	for i := range 2 {
		which := i ^ first
		e, err := build(s, table[which*half:(which+1)*half], l+1, way)
		if err != api.OK {
			return api.Edge{}, err
		}
		edges[which] = e
	}
	return Make(s, l, edges[0], edges[1])
}

// built: likewise, where there must be room.
func built(t *testing.T, s *store.Store, table string, l, way int) api.Edge {
	t.Helper()
	e, err := build(s, table, l, way)
	if err != api.OK {
		t.Fatalf("build(%s, %d): %v", table, l, err)
	}
	return e
}

// byLevels: the diagram of a table, all edges of a level before those of the level above it.
func byLevels(t *testing.T, s *store.Store, table string) api.Edge {
	t.Helper()
	var row []api.Edge
	for _, bit := range table {
		row = append(row, at(uint32(bit-'0')))
	}
	for l := s.Vars() - 1; l >= 0; l-- {
		var above []api.Edge
		for i := 0; i < len(row); i += 2 {
			above = append(above, make1(t, s, l, row[i], row[i+1]))
		}
		row = above
	}
	return row[0]
}

// nodesOf a table's diagram: how many different tables of its parts have something in their upper halves.
func nodesOf(table string) int {
	seen := map[string]bool{}
	var walk func(part string)
	walk = func(part string) {
		half := len(part) / 2
		if half == 0 || seen[part] {
			return
		}
		if part[half:] != noughts(half) {
			seen[part] = true
			walk(part[half:])
		}
		walk(part[:half])
	}
	walk(table)
	return len(seen)
}

// table of a number's lowest bits.
func table(x uint64, size int) string {
	b := make([]byte, size)
	for i := range b {
		b[i] = '0' + byte(x>>i&1)
	}
	return string(b)
}

// draw a table of so many levels: some even, some sparse, some dense, some made of few parts.
func draw(r *rand.Rand, l int) string {
	kind := r.Intn(4)
	if kind == 3 && l > 2 {
		parts := []string{draw(r, l-2), draw(r, l-2), noughts(1 << (l - 2))}
		var b strings.Builder
		for range 4 {
			b.WriteString(parts[r.Intn(3)])
		}
		return b.String()
	}
	limit := []int{4, 1, 7, 4}[kind]
	b := make([]byte, 1<<l)
	for i := range b {
		b[i] = '0'
		if r.Intn(8) < limit {
			b[i] = '1'
		}
	}
	return string(b)
}

// full: all sets of n variables, in a store with room for just their nodes.
func full(t *testing.T, n int) *store.Store {
	t.Helper()
	size := 1 << n
	s := made(t, n, 1<<size-2)
	for x := range uint64(1) << size {
		built(t, s, table(x, size), 0, lowFirst)
	}
	if s.Len() != s.Room() {
		t.Fatalf("%d nodes of %d", s.Len(), s.Room())
	}
	return s
}

// mixed: a store with nodes of all forms, those of ZDDs among them told, and the id of the last one.
func mixed(t *testing.T) (s *store.Store, low, top api.Edge, last uint32) {
	t.Helper()
	s = made(t, 3, 20)
	found(t, s, api.Record{Form: api.BDD, Top: 2, Bot: 2, Lo: nothing, Hi: one})
	low = found(t, s, record(2, nothing, one))
	found(t, s, api.Record{Form: api.CBDD, Top: 1, Bot: 2, Lo: nothing, Hi: one})
	found(t, s, api.Record{Form: api.CZDD, Top: 2, Bot: 2, Lo: nothing, Hi: one})
	top = found(t, s, record(0, low, low))
	end := api.Edge{At: 1, Tag: 3}
	last = found(t, s, api.Record{Form: api.TBDD, Top: 2, Bot: 2, Lo: nothing, Hi: end}).At
	return s, low, top, last
}

func TestMakeAndView(t *testing.T) { // P13.1 and P13.2: by hand, with the chapter's example
	s := made(t, 3, 10)
	if e := make1(t, s, 1, one, nothing); e != one || s.Len() != 0 {
		t.Errorf("Make(1, one, nothing): %v, of %d nodes", e, s.Len())
	}
	x := make1(t, s, 2, nothing, one)
	if again := make1(t, s, 2, nothing, one); again != x || x != at(2) || s.Len() != 1 {
		t.Errorf("Make tells %v, then %v, of %d nodes", x, again, s.Len())
	}
	y := make1(t, s, 1, x, one)
	z := make1(t, s, 0, x, y)
	if y != at(3) || z != at(4) || s.Len() != 3 {
		t.Errorf("Make tells %v, %v, of %d nodes", y, z, s.Len())
	}
	for e, want := range map[api.Edge]api.Record{
		x: record(2, nothing, one),
		y: record(1, x, one),
		z: record(0, x, y),
	} {
		if r, ok := s.Get(e.At); !ok || r != want {
			t.Errorf("node %d is %s, wanted %s", e.At, node.Text(r), node.Text(want))
		}
	}
	halves(t, s, z, 0, x, y)
	halves(t, s, y, 0, y, nothing)
	halves(t, s, y, 1, x, one)
	halves(t, s, x, 0, x, nothing)
	halves(t, s, x, 1, x, nothing)
	halves(t, s, x, 2, nothing, one)
	// Of the levels 0, 1, 2: those of 1 at the level 2 alone; at 0 and 1; at 0 and 2.
	if got := meaning(s, z, 0); got != "01000110" {
		t.Errorf("z means %s", got)
	}
}

func TestMakeHiNothing(t *testing.T) { // P13.1: hi nothing is lo, and makes no node, in a store without room, too
	for n := 1; n <= api.MaxVars; n++ {
		s := made(t, n, 0)
		for l := range n {
			for _, lo := range []api.Edge{nothing, one} {
				if got := make1(t, s, l, lo, nothing); got != lo || s.Len() != 0 {
					t.Errorf("n %d: Make(%d, %v, nothing): %v", n, l, lo, got)
				}
			}
		}
	}
	s := full(t, 3)
	old := records(s)
	for id, r := range old {
		// From just above the node up: there it stands at l + 1, or below.
		for l := range int(r.Top) {
			if got := make1(t, s, l, at(id), nothing); got != at(id) {
				t.Errorf("Make(%d, %d, nothing): %v", l, id, got)
			}
		}
	}
	sameNodes(t, s, old)
}

func TestMakeSame(t *testing.T) { // P13.1: halves that are the same, and not nothing, are a node's
	for n := 1; n <= api.MaxVars; n++ {
		for l := range n {
			s := made(t, n, 1)
			for _, lo := range []api.Edge{one, nothing} {
				noMake(t, made(t, n, 0), l, lo, one, api.Full)
			}
			got := make1(t, s, l, one, one)
			if r, ok := s.Get(got.At); !ok || r != record(l, one, one) || got != at(2) {
				t.Errorf("n %d: Make(%d, one, one): %v, %v", n, l, got, r)
			}
			noMake(t, s, l, nothing, one, api.Full)
			if s.Len() != 1 {
				t.Errorf("n %d: %d nodes", n, s.Len())
			}
		}
	}
	s := made(t, 4, 3)
	e := one
	for _, l := range []int{3, 1, 0} {
		above := make1(t, s, l, e, e)
		if r, _ := s.Get(above.At); r != record(l, e, e) {
			t.Errorf("Make(%d, %v, %v): %v", l, e, e, r)
		}
		e = above
	}
	// The level 2 is left out, and so it is 0.
	if got := meaning(s, e, 0); got != "1100110011001100" {
		t.Errorf("%v means %s", e, got)
	}
}

func TestEndsViewed(t *testing.T) { // P13.2 and P13.3: nothing and one, at each level
	for n := range api.MaxVars + 1 {
		s := made(t, n, 0)
		for l := range n {
			halves(t, s, one, l, one, nothing)
			halves(t, s, nothing, l, nothing, nothing)
		}
		for l := range n + 1 {
			if !Right(s, one, l) || !Right(s, nothing, l) {
				t.Errorf("n %d: nothing and one aren't right at %d", n, l)
			}
		}
		for _, l := range []int{n, n + 1, -1, math.MinInt, math.MaxInt} {
			noView(t, s, one, l, api.Var)
			noView(t, s, nothing, l, api.Var)
			noMake(t, s, l, one, nothing, api.Var)
			if l != n && (Right(s, one, l) || Right(s, nothing, l)) {
				t.Errorf("n %d: right at %d", n, l)
			}
		}
	}
}

func TestEachPair(t *testing.T) { // P13.1 and P13.2: all halves of small stores, at each level, by the Words
	for n := 1; n <= 3; n++ {
		s := full(t, n)
		old := records(s)
		last := uint32(s.Len() + 1)
		for l := range n {
			for lo := range last + 1 {
				for hi := range last + 1 {
					pair(t, s, l, at(lo), at(hi))
				}
			}
		}
		sameNodes(t, s, old)
	}
}

// pair: these halves, whose node is there in a full store.
func pair(t *testing.T, s *store.Store, l int, lo, hi api.Edge) {
	t.Helper()
	if want := wrong(s, l, l+1, lo, hi); want != api.OK {
		noMake(t, s, l, lo, hi, want)
		return
	}
	e := make1(t, s, l, lo, hi)
	if want := meaning(s, lo, l+1) + meaning(s, hi, l+1); !leads(s, e, l) || meaning(s, e, l) != want {
		t.Fatalf("Make(%d, %v, %v): %v, wanted %s", l, lo, hi, e, want)
	}
	halves(t, s, e, l, lo, hi)
}

func TestEachEdge(t *testing.T) { // P13.2 to P13.4: all edges at all levels, in a store with no room left
	for n := range 4 {
		s := full(t, n)
		old := records(s)
		for _, e := range anyEdges(uint32(s.Len() + 1)) {
			for _, l := range levels(n) {
				edge(t, s, e, l)
			}
		}
		sameNodes(t, s, old)
	}
}

// edge: what View and Right tell of an edge, and Make of that.
func edge(t *testing.T, s *store.Store, e api.Edge, l int) {
	t.Helper()
	if right := leads(s, e, l); Right(s, e, l) != right {
		t.Fatalf("Right(%v, %d) is %v", e, l, !right)
	}
	if want := wrong(s, l, l, e); want != api.OK {
		noView(t, s, e, l, want)
		return
	}
	lo, hi := e, nothing
	if r, ok := s.Get(e.At); ok && int(r.Top) == l {
		lo, hi = r.Lo, r.Hi
	}
	halves(t, s, e, l, lo, hi)
	if !Right(s, lo, l+1) || !Right(s, hi, l+1) || meaning(s, lo, l+1)+meaning(s, hi, l+1) != meaning(s, e, l) {
		t.Fatalf("View(%v, %d): %v, %v", e, l, lo, hi)
	}
	if again := make1(t, s, l, lo, hi); again != e {
		t.Fatalf("Make(%d, %v, %v) is %v, was %v", l, lo, hi, again, e)
	}
}

func TestDownToTheEnd(t *testing.T) { // P13.1, P13.2 and P13.4: each edge viewed level by level, down to nothing and one
	r := rand.New(rand.NewSource(13))
	for n := range 11 {
		s := made(t, n, api.MaxRoom)
		for range 6 {
			want := draw(r, n)
			e := built(t, s, want, 0, lowFirst)
			old := records(s)
			if got := viewed(t, s, e, 0); got != want || meaning(s, e, 0) != want {
				t.Fatalf("n %d: the edge of %s means %s", n, want, got)
			}
			sameNodes(t, s, old)
		}
	}
}

// viewed: the table that View tells, from l down; Make of its halves tells the edge again.
func viewed(t *testing.T, s *store.Store, e api.Edge, l int) string {
	t.Helper()
	if l == s.Vars() {
		if e != nothing && e != one || !Right(s, e, l) {
			t.Fatalf("%v at the end", e)
		}
		return string('0' + byte(e.At))
	}
	edge(t, s, e, l)
	lo, hi, _ := View(s, e, l)
	return viewed(t, s, lo, l+1) + viewed(t, s, hi, l+1)
}

func TestWrongMake(t *testing.T) { // P13.1: the first error that holds, and no node beside it
	s, low, top, last := mixed(t)
	old := records(s)
	for _, l := range levels(3) {
		for _, lo := range anyEdges(last) {
			for _, hi := range []api.Edge{nothing, one, low, top, lo, {At: 1, Tag: 1}, at(2), at(last), at(last + 1)} {
				for _, pair := range [][2]api.Edge{{lo, hi}, {hi, lo}} {
					noMake(t, nil, l, pair[0], pair[1], api.Nil)
					if want := wrong(s, l, l+1, pair[0], pair[1]); want != api.OK {
						noMake(t, s, l, pair[0], pair[1], want)
					}
				}
			}
		}
	}
	sameNodes(t, s, old)
}

func TestWrongMakeByHand(t *testing.T) { // P13.1: one by one
	s, low, top, last := mixed(t)
	tagged, otherForm, noNode := api.Edge{At: low.At, Tag: 1}, at(2), at(last+9)
	for _, c := range []struct {
		s      *store.Store
		l      int
		lo, hi api.Edge
		want   api.Err
	}{
		{nil, -1, tagged, noNode, api.Nil},
		{nil, 0, one, nothing, api.Nil},
		{s, -1, tagged, noNode, api.Var},
		{s, 3, tagged, tagged, api.Var},
		{s, 3, one, nothing, api.Var},
		{s, math.MaxInt, nothing, one, api.Var},
		{s, math.MinInt, one, nothing, api.Var},
		{s, 256, nothing, one, api.Var},
		{s, 0, tagged, one, api.Arg},
		{s, 0, tagged, nothing, api.Arg},
		{s, 0, one, tagged, api.Arg},
		{s, 0, tagged, tagged, api.Arg},
		{s, 0, api.Edge{Tag: 1}, one, api.Arg},
		{s, 0, one, api.Edge{Tag: 1}, api.Arg},
		{s, 0, one, api.Edge{At: 1, Tag: 3}, api.Arg},
		{s, 0, otherForm, one, api.Arg},
		{s, 0, otherForm, nothing, api.Arg},
		{s, 0, one, otherForm, api.Arg},
		{s, 0, otherForm, otherForm, api.Arg},
		{s, 0, noNode, nothing, api.Arg},
		{s, 0, one, noNode, api.Arg},
		{s, 0, noNode, noNode, api.Arg},
		{s, 2, low, one, api.Arg},
		{s, 2, low, nothing, api.Arg},
		{s, 2, one, low, api.Arg},
		{s, 2, low, low, api.Arg},
		{s, 0, top, nothing, api.Arg},
		{s, 0, one, top, api.Arg},
		{s, 0, top, top, api.Arg},
	} {
		noMake(t, c.s, c.l, c.lo, c.hi, c.want)
	}
	if got := make1(t, s, 1, low, nothing); got != low {
		t.Errorf("Make(1, low, nothing): %v", got)
	}
	if got := make1(t, s, 1, low, low); got != at(last+1) {
		t.Errorf("Make(1, low, low): %v", got)
	}
}

func TestWrongViewByHand(t *testing.T) { // P13.2: one by one
	s, low, top, last := mixed(t)
	tagged, otherForm, noNode := api.Edge{At: low.At, Tag: 1}, at(2), at(last+9)
	for _, c := range []struct {
		s    *store.Store
		e    api.Edge
		l    int
		want api.Err
	}{
		{nil, noNode, -1, api.Nil},
		{nil, one, 0, api.Nil},
		{s, noNode, -1, api.Var},
		{s, tagged, 3, api.Var},
		{s, one, 3, api.Var},
		{s, one, math.MaxInt, api.Var},
		{s, one, math.MinInt, api.Var},
		{s, low, 256, api.Var},
		{s, tagged, 0, api.Arg},
		{s, otherForm, 0, api.Arg},
		{s, otherForm, 2, api.Arg},
		{s, noNode, 0, api.Arg},
		{s, api.Edge{Tag: 1}, 0, api.Arg},
		{s, api.Edge{At: 1, Tag: 3}, 0, api.Arg},
		{s, top, 1, api.Arg},
		{s, top, 2, api.Arg},
	} {
		noView(t, c.s, c.e, c.l, c.want)
	}
	halves(t, s, top, 0, low, low)
	halves(t, s, low, 0, low, nothing)
	halves(t, s, low, 2, nothing, one)
}

func TestOtherForms(t *testing.T) { // P13.1 to P13.3: beside nodes of other forms, and behind them
	s, low, top, last := mixed(t)
	old := records(s)
	for _, e := range anyEdges(last) {
		for _, l := range levels(3) {
			edge(t, s, e, l)
		}
	}
	sameNodes(t, s, old)
	for id := range last + 2 {
		want := id < 2 || id == low.At || id == top.At
		if Right(s, at(id), 0) != want {
			t.Errorf("Right(%d, 0) is %v", id, !want)
		}
	}
	if e := make1(t, s, 2, nothing, one); e != low {
		t.Errorf("Make tells %v of a set whose edge is %v", e, low)
	}
	if e := make1(t, s, 1, nothing, one); e != at(last+1) {
		t.Errorf("Make tells %v, wanted the id %d", e, last+1)
	}
}

func TestNoVariables(t *testing.T) { // P13.1 to P13.3: of a store for 0 variables, and of one that New didn't make
	for _, s := range []*store.Store{made(t, 0, 5), {}} {
		for _, e := range anyEdges(3) {
			for _, l := range levels(0) {
				noMake(t, s, l, e, nothing, api.Var)
				noMake(t, s, l, one, e, api.Var)
				edge(t, s, e, l)
			}
		}
		if !Right(s, one, 0) || !Right(s, nothing, 0) || Right(s, one, 1) || s.Len() != 0 {
			t.Error("nothing and one are right at the level 0 alone")
		}
	}
}

func TestNil(t *testing.T) { // P13.1 to P13.3: of a nil store
	for _, e := range anyEdges(3) {
		for _, l := range levels(0) {
			noMake(t, nil, l, e, e, api.Nil)
			noMake(t, nil, l, e, nothing, api.Nil)
			noView(t, nil, e, l, api.Nil)
			if Right(nil, e, l) {
				t.Fatalf("Right(nil, %v, %d)", e, l)
			}
		}
	}
}

func TestSixteen(t *testing.T) { // P13.1 to P13.5: all assignments of sixteen variables; that of 1 at all; that of noughts alone
	for _, all := range []bool{true, false} {
		for _, room := range []int{16, 15} {
			sixteen(t, all, room)
		}
	}
	s := made(t, 16, 0)
	e := one
	for l := 15; l >= 0; l-- {
		e = make1(t, s, l, e, nothing)
	}
	if e != one {
		t.Errorf("noughts alone: %v", e)
	}
}

// sixteen nodes, one at each level: of all assignments, or of that of 1 at all.
func sixteen(t *testing.T, all bool, room int) {
	t.Helper()
	s := made(t, 16, room)
	lo, e := nothing, one
	for l := 15; l >= 0; l-- {
		if all {
			lo = e
		}
		if s.Len() == room {
			noMake(t, s, l, lo, e, api.Full)
			return
		}
		e = make1(t, s, l, lo, e)
		if s.Top(e) != l || s.Len() != 16-l || !Right(s, e, l) || Right(s, e, l+1) {
			t.Fatalf("level %d: %v, of %d nodes", l, e, s.Len())
		}
	}
	if room != 16 {
		t.Errorf("room for %d is enough", room)
	}
}

func TestSingles(t *testing.T) { // P13.5: a set of one assignment has a node for each level at which it has 1
	for n := range 8 {
		for x := range 1 << n {
			want := noughts(x) + "1" + noughts(1<<n-x-1)
			count := strings.Count(table(uint64(x), n), "1")
			s := made(t, n, count)
			if e := built(t, s, want, 0, lowFirst); s.Len() != count || meaning(s, e, 0) != want {
				t.Fatalf("%s: %v, of %d nodes", want, e, s.Len())
			}
		}
	}
}

func TestFull(t *testing.T) { // P13.1: a node that is there is told still, a new one tells Full
	s := made(t, 3, 2)
	low := make1(t, s, 2, nothing, one)
	top := make1(t, s, 0, low, low)
	old := records(s)
	for range 3 {
		if got := make1(t, s, 2, nothing, one); got != low {
			t.Errorf("Make: %v, was %v", got, low)
		}
		if got := make1(t, s, 0, low, low); got != top {
			t.Errorf("Make: %v, was %v", got, top)
		}
		if got := make1(t, s, 1, low, nothing); got != low {
			t.Errorf("Make: %v, wanted %v", got, low)
		}
		for _, c := range []struct {
			l      int
			lo, hi api.Edge
		}{{2, one, one}, {1, nothing, one}, {1, low, low}, {1, low, one}, {0, one, low}, {0, nothing, low}, {0, low, one}} {
			noMake(t, s, c.l, c.lo, c.hi, api.Full)
		}
		// An edge that doesn't lead is looked for before room is.
		noMake(t, s, 0, top, one, api.Arg)
		sameNodes(t, s, old)
	}
	s.Sweep([]api.Edge{low})
	if got := make1(t, s, 1, low, one); got != top {
		t.Errorf("behind Sweep: %v, wanted the id that came free", got)
	}
}

func TestSwept(t *testing.T) { // P13.1 to P13.3: an edge whose node went leads nowhere
	s := made(t, 3, 5)
	low := make1(t, s, 2, nothing, one)
	if gone := s.Sweep(nil); gone != 1 {
		t.Fatalf("%d went", gone)
	}
	nowhere(t, s, low)
	if e := found(t, s, api.Record{Form: api.BDD, Top: 2, Bot: 2, Lo: nothing, Hi: one}); e != low {
		t.Fatalf("%v, wanted the id that came free", e)
	}
	nowhere(t, s, low)
}

// nowhere: an edge that leads at no level.
func nowhere(t *testing.T, s *store.Store, e api.Edge) {
	t.Helper()
	for l := range s.Vars() {
		if Right(s, e, l) {
			t.Errorf("Right(%v, %d)", e, l)
		}
		noMake(t, s, l, e, nothing, api.Arg)
		noMake(t, s, l, one, e, api.Arg)
		noView(t, s, e, l, api.Arg)
	}
}

func TestOneEdgeASet(t *testing.T) { // P13.4: two edges that are right at one level mean one set just if they are the same
	for n := range 4 {
		s := full(t, n)
		last := uint32(s.Len() + 1)
		for l := range n + 1 {
			of := map[string]api.Edge{}
			for id := range last + 1 {
				if !Right(s, at(id), l) {
					continue
				}
				set := meaning(s, at(id), l)
				if other, ok := of[set]; ok {
					t.Fatalf("n %d, level %d: %v and %d mean %s", n, l, other, id, set)
				}
				of[set] = at(id)
			}
			if sets := 1 << (1 << (n - l)); len(of) != sets {
				t.Fatalf("n %d, level %d: edges of %d sets, wanted %d", n, l, len(of), sets)
			}
		}
	}
}

func TestDrawnTwice(t *testing.T) { // P13.4: sets drawn, made again in other orders, in one store
	r := rand.New(rand.NewSource(134))
	for n := range 9 {
		s := made(t, n, api.MaxRoom)
		of := map[string]api.Edge{}
		sets := map[api.Edge]string{}
		for range 40 {
			l := r.Intn(n + 1)
			want := draw(r, n-l)
			e := built(t, s, want, l, r.Intn(3))
			if l == 0 {
				if again := byLevels(t, s, want); again != e {
					t.Fatalf("%s is %v, then %v", want, e, again)
				}
			}
			for way := range 3 {
				if again := built(t, s, want, l, way); again != e {
					t.Fatalf("%s is %v, then %v", want, e, again)
				}
			}
			if !Right(s, e, l) || meaning(s, e, l) != want {
				t.Fatalf("%s at %d: %v", want, l, e)
			}
			// At the level 0 what is above l is 0.
			whole := want + noughts(1<<n-len(want))
			if old, ok := of[whole]; ok && old != e {
				t.Fatalf("%s is %v, and %v", whole, old, e)
			}
			if old, ok := sets[e]; ok && old != whole {
				t.Fatalf("%v means %s, and %s", e, old, whole)
			}
			of[whole], sets[e] = e, whole
		}
	}
}

func TestRoom(t *testing.T) { // P13.5: room for just its nodes is enough, one less isn't
	r := rand.New(rand.NewSource(135))
	for n := range 11 {
		for range 12 {
			set := draw(r, n)
			count := nodesOf(set)
			for way := range 3 {
				s := made(t, n, count)
				e := built(t, s, set, 0, way)
				if s.Len() != count || len(s.Reach([]api.Edge{e})) != count || meaning(s, e, 0) != set {
					t.Fatalf("%s: %d nodes, wanted %d", set, s.Len(), count)
				}
				old := records(s)
				if again := built(t, s, set, 0, (way+1)%3); again != e || viewed(t, s, e, 0) != set {
					t.Fatalf("%s in a full store: %v, was %v", set, again, e)
				}
				sameNodes(t, s, old)
				if count == 0 {
					continue
				}
				s = made(t, n, count-1)
				if e, err := build(s, set, 0, way); e != nothing || err != api.Full || s.Len() != count-1 {
					t.Fatalf("%s with room for one less: %v, %v, %d nodes", set, e, err, s.Len())
				}
			}
		}
	}
}

func TestDrawnCalls(t *testing.T) { // P13.1 to P13.4, R2: a long run of drawn calls, in stores of little room
	r := rand.New(rand.NewSource(1304))
	for n := range 6 {
		for _, room := range []int{0, 1, 3, 10, 40} {
			s := made(t, n, room)
			for range 800 {
				drawnCall(t, r, s)
			}
		}
	}
}

// drawnCall: one call of View and one of Make, held against the Words; now and then what isn't reached goes.
func drawnCall(t *testing.T, r *rand.Rand, s *store.Store) {
	t.Helper()
	pick := func() api.Edge {
		e := at(uint32(r.Intn(s.Room() + 3)))
		if r.Intn(20) == 0 {
			e.Tag = uint8(r.Intn(4))
		}
		return e
	}
	l, lo, hi := r.Intn(s.Vars()+3)-1, pick(), pick()
	if r.Intn(200) == 0 {
		s.Sweep([]api.Edge{lo, hi})
	}
	old := records(s)
	edge(t, s, pick(), l)
	sameNodes(t, s, old)
	if want := wrong(s, l, l+1, lo, hi); want != api.OK {
		noMake(t, s, l, lo, hi, want)
		sameNodes(t, s, old)
		return
	}
	_, has := s.Has(record(l, lo, hi))
	if hi != nothing && !has && len(old) == s.Room() {
		noMake(t, s, l, lo, hi, api.Full)
		sameNodes(t, s, old)
		return
	}
	e := make1(t, s, l, lo, hi)
	if meaning(s, e, l) != meaning(s, lo, l+1)+meaning(s, hi, l+1) {
		t.Fatalf("Make(%d, %v, %v): %v", l, lo, hi, e)
	}
	if hi != nothing && !has {
		old[e.At] = record(l, lo, hi)
	}
	sameNodes(t, s, old)
}
