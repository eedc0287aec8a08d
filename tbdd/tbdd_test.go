package tbdd

import (
	"math"
	"math/rand"
	"strings"
	"testing"

	"ramage/api"
	"ramage/node"
	"ramage/store"
)

var nothing = api.Edge{}

// at: an edge with a tag.
func at(tag int, id uint32) api.Edge { return api.Edge{Tag: uint8(tag), At: id} }

// one: an edge to it, with a tag.
func one(tag int) api.Edge { return at(tag, 1) }

// record of a node.
func record(l int, lo, hi api.Edge) api.Record {
	return api.Record{Form: api.TBDD, Top: uint8(l), Bot: uint8(l), Lo: lo, Hi: hi}
}

// made: a store.
func made(t *testing.T, n, room int) *store.Store {
	t.Helper()
	s, err := store.New(n, room)
	if err != api.OK || s == nil {
		t.Fatalf("New(%d, %d): %v", n, room, err)
	}
	return s
}

// found: the id of the node of a record that may be.
func found(t *testing.T, s *store.Store, r api.Record) uint32 {
	t.Helper()
	id, err := s.Find(r)
	if err != api.OK {
		t.Fatalf("Find(%v): %v", r, err)
	}
	return id
}

// is: has an edge a node of this record, and this tag?
func is(t *testing.T, s *store.Store, e api.Edge, tag int, want api.Record) {
	t.Helper()
	if r, ok := s.Get(e.At); !ok || r != want || int(e.Tag) != tag {
		t.Errorf("%v is %s, wanted %s with the tag %d", e, node.Text(r), node.Text(want), tag)
	}
}

// make1: Make, where it must tell an edge.
func make1(t *testing.T, s *store.Store, l int, lo, hi api.Edge) api.Edge {
	t.Helper()
	e, err := Make(s, l, lo, hi)
	if err != api.OK {
		t.Fatalf("Make(%d, %v, %v): %v", l, lo, hi, err)
	}
	return e
}

// noMake: Make, where it must tell an error.
func noMake(t *testing.T, s *store.Store, l int, lo, hi api.Edge, want api.Err) {
	t.Helper()
	if e, err := Make(s, l, lo, hi); e != nothing || err != want {
		t.Fatalf("Make(%d, %v, %v): %v, %v, wanted %v", l, lo, hi, e, err, want)
	}
}

// halves: View, where it must tell these.
func halves(t *testing.T, s *store.Store, e api.Edge, l int, lo, hi api.Edge) {
	t.Helper()
	if a, b, err := View(s, e, l); a != lo || b != hi || err != api.OK {
		t.Fatalf("View(%v, %d): %v, %v, %v, wanted %v, %v", e, l, a, b, err, lo, hi)
	}
}

// noView: View, where it must tell an error.
func noView(t *testing.T, s *store.Store, e api.Edge, l int, want api.Err) {
	t.Helper()
	if lo, hi, err := View(s, e, l); lo != nothing || hi != nothing || err != want {
		t.Fatalf("View(%v, %d): %v, %v, %v, wanted %v", e, l, lo, hi, err, want)
	}
}

// levels of n variables, that of the terminals too, and numbers that are none.
func levels(n int) []int {
	l := []int{-1, -2, n + 1, n + 2, 16, 17, 255, 256, 256 + n, 1 << 32, 1<<32 + n, -1 << 32, math.MaxInt, math.MaxInt - 1, math.MinInt, math.MinInt + 1, math.MinInt + n}
	for i := range n + 1 {
		l = append(l, i)
	}
	return l
}

// anyEdges: edges to nothing, to one, to each id up to the last one and some behind it, with each tag from 0 to n, and with others.
func anyEdges(n int, last uint32) []api.Edge {
	ids := []uint32{1 << 20, 1<<20 + 1, 1 << 31, math.MaxUint32 - 1, math.MaxUint32}
	for id := range last + 3 {
		ids = append(ids, id)
	}
	var l []api.Edge
	for _, id := range ids {
		for tag := range n + 2 {
			l = append(l, at(tag, id))
		}
		l = append(l, at(17, id), at(128, id), at(255, id))
	}
	return l
}

// leading: all edges that lead at a level, nothing first.
func leading(s *store.Store, l int) []api.Edge {
	list := []api.Edge{nothing}
	for id := range uint32(s.Len() + 2) {
		for tag := l; id > 0 && tag <= s.Vars(); tag++ {
			if canLead(s, at(tag, id), l) {
				list = append(list, at(tag, id))
			}
		}
	}
	return list
}

// records of all nodes, by ids.
func records(s *store.Store) map[uint32]api.Record {
	all := map[uint32]api.Record{}
	for id := range s.Ids() {
		r, _ := s.Get(id)
		all[id] = r
	}
	return all
}

// sameNodes: has a store these nodes still, and no others?
func sameNodes(t *testing.T, s *store.Store, old map[uint32]api.Record) {
	t.Helper()
	now := records(s)
	if len(now) != len(old) || s.Len() != len(old) {
		t.Fatalf("%d nodes, were %d", s.Len(), len(old))
	}
	for id, r := range old {
		if now[id] != r {
			t.Fatalf("node %d is %v, was %v", id, now[id], r)
		}
	}
}

// noughts: so many.
func noughts(size int) string { return strings.Repeat("0", size) }

// meaning: what an edge means, as the Words tell it: a text of 0 and 1, one of these for each assignment of the levels from l on, the level l as its highest bit.
func meaning(s *store.Store, e api.Edge, l int) string {
	if e.At == 0 {
		return noughts(1 << (s.Vars() - l))
	}
	set := "1"
	if e.At > 1 {
		r, _ := s.Get(e.At)
		below := int(r.Top) + 1
		set = meaning(s, r.Lo, below) + meaning(s, r.Hi, below)
	}
	set += noughts(1<<(s.Vars()-int(e.Tag)) - len(set))
	return strings.Repeat(set, 1<<(int(e.Tag)-l))
}

// canLead: does an edge, as the Words of the chapters 10 and 11 tell it?
func canLead(s *store.Store, e api.Edge, l int) bool {
	if s == nil || l < 0 || l > s.Vars() {
		return false
	}
	if e.At == 0 {
		return e.Tag == 0
	}
	if int(e.Tag) < l || int(e.Tag) > s.Vars() {
		return false
	}
	if e.At == 1 {
		return true
	}
	r, ok := s.Get(e.At)
	return ok && r.Form == api.TBDD && int(r.Top) >= l && r.Top >= e.Tag
}

// right: is an edge, as P16.3 tells it?
func right(s *store.Store, e api.Edge, l int) bool {
	return canLead(s, e, l) && needed(s, e)
}

// needed: is each node that is reached?
func needed(s *store.Store, e api.Edge) bool {
	r, ok := s.Get(e.At)
	if !ok {
		return true
	}
	if r.Hi.At == 0 && r.Lo.Tag == r.Top+1 {
		return false
	}
	return needed(s, r.Lo) && needed(s, r.Hi)
}

// wrong: the error of a level, and of edges at another one; OK if none holds.
func wrong(s *store.Store, l, where int, edges ...api.Edge) api.Err {
	if s == nil {
		return api.Nil
	}
	if l < 0 || l >= s.Vars() {
		return api.Var
	}
	for _, e := range edges {
		if !canLead(s, e, where) {
			return api.Arg
		}
	}
	return api.OK
}

// withoutNode: the edge of halves that lead and need no node, as P16.1 says.
func withoutNode(l int, lo, hi api.Edge) (api.Edge, bool) {
	if lo == hi {
		return lo, true
	}
	if hi.At == 0 && int(lo.Tag) == l+1 {
		return at(l, lo.At), true
	}
	return nothing, false
}

// makes: Make, held against the Words, and what it leaves of the nodes.
func makes(t *testing.T, s *store.Store, l int, lo, hi api.Edge) {
	t.Helper()
	old := records(s)
	if want := wrong(s, l, l+1, lo, hi); want != api.OK {
		noMake(t, s, l, lo, hi, want)
		sameNodes(t, s, old)
		return
	}
	if want, ok := withoutNode(l, lo, hi); ok {
		if e := make1(t, s, l, lo, hi); e != want {
			t.Fatalf("Make(%d, %v, %v): %v, wanted %v", l, lo, hi, e, want)
		}
		means(t, s, l, lo, hi, want)
		sameNodes(t, s, old)
		return
	}
	want := record(l, lo, hi)
	was, has := s.Has(want)
	if !has && len(old) == s.Room() {
		noMake(t, s, l, lo, hi, api.Full)
		sameNodes(t, s, old)
		return
	}
	e := make1(t, s, l, lo, hi)
	is(t, s, e, l, want)
	if has && e.At != was {
		t.Fatalf("Make(%d, %v, %v): %v, wanted the node %d", l, lo, hi, e, was)
	}
	means(t, s, l, lo, hi, e)
	old[e.At] = want
	sameNodes(t, s, old)
}

// means: does the edge that was made of halves mean what it should, and is it right, if they are?
func means(t *testing.T, s *store.Store, l int, lo, hi, e api.Edge) {
	t.Helper()
	if !canLead(s, e, l) || meaning(s, e, l) != meaning(s, lo, l+1)+meaning(s, hi, l+1) {
		t.Fatalf("Make(%d, %v, %v): %v", l, lo, hi, e)
	}
	if right(s, lo, l+1) && right(s, hi, l+1) && !Right(s, e, l) {
		t.Fatalf("Make(%d, %v, %v): %v isn't right", l, lo, hi, e)
	}
}

// views: View and Right, held against the Words, and Make of what View tells; the nodes are looked at by the caller.
func views(t *testing.T, s *store.Store, e api.Edge, l int) {
	t.Helper()
	if want := right(s, e, l); Right(s, e, l) != want {
		t.Fatalf("Right(%v, %d) is %v", e, l, !want)
	}
	if want := wrong(s, l, l, e); want != api.OK {
		noView(t, s, e, l, want)
		return
	}
	lo, hi := at(l+1, e.At), nothing
	if r, ok := s.Get(e.At); ok && int(r.Top) == l {
		lo, hi = r.Lo, r.Hi
	}
	if e.At == 0 || int(e.Tag) > l {
		lo, hi = e, e
	}
	halves(t, s, e, l, lo, hi)
	if !canLead(s, lo, l+1) || !canLead(s, hi, l+1) || meaning(s, lo, l+1)+meaning(s, hi, l+1) != meaning(s, e, l) {
		t.Fatalf("View(%v, %d): %v, %v", e, l, lo, hi)
	}
	if !right(s, e, l) {
		return
	}
	if again := make1(t, s, l, lo, hi); again != e || !Right(s, lo, l+1) || !Right(s, hi, l+1) {
		t.Fatalf("Make(%d, %v, %v): %v, wanted %v", l, lo, hi, again, e)
	}
}

// orders in which the halves of a set may be made.
const (
	lowFirst = iota
	highFirst
	drawn
)

// end: the edge at the end, of a table's one place.
func end(s *store.Store, bit byte) api.Edge {
	if bit == '0' {
		return nothing
	}
	return one(s.Vars())
}

// build the diagram of a table from below; an error is Make's first one.
func build(s *store.Store, table string, l, way int) (api.Edge, api.Err) {
	if l == s.Vars() {
		return end(s, table[0]), api.OK
	}
	half := len(table) / 2
	var edges [2]api.Edge
	first := way
	if way == drawn {
		first = strings.Count(table, "1") % 2
	}
	for i := range 2 {
		which := i ^ first
		e, err := build(s, table[which*half:(which+1)*half], l+1, way)
		if err != api.OK {
			return api.Edge{}, err
		}
		edges[which] = e
	}
	return Make(s, l, edges[0], edges[1])
}

// built: likewise, where there must be room.
func built(t *testing.T, s *store.Store, table string, l, way int) api.Edge {
	t.Helper()
	e, err := build(s, table, l, way)
	if err != api.OK {
		t.Fatalf("build(%s, %d): %v", table, l, err)
	}
	return e
}

// byLevels: the diagram of a table, all edges of a level before those of the level above it.
func byLevels(t *testing.T, s *store.Store, table string) api.Edge {
	t.Helper()
	var row []api.Edge
	for i := range len(table) {
		row = append(row, end(s, table[i]))
	}
	for l := s.Vars() - 1; l >= 0; l-- {
		var above []api.Edge
		for i := 0; i < len(row); i += 2 {
			above = append(above, make1(t, s, l, row[i], row[i+1]))
		}
		row = above
	}
	return row[0]
}

// split a table in its halves.
func split(part string) (lo, hi string) {
	return part[:len(part)/2], part[len(part)/2:]
}

// isFree: plays a table's topmost level no part?
func isFree(part string) bool {
	lo, hi := split(part)
	return len(part) > 1 && lo == hi
}

// spared: how many levels of a table, that isn't all 0, a tag tells: topmost ones that play no part, and behind these ones that are 0; and what is left of it. Behind a level that is 0 the tag can't tell of one that plays no part, so that there a node is needed.
func spared(part string) (free, nought int, rest string) {
	for isFree(part) {
		part, _ = split(part)
		free++
	}
	for len(part) > 1 {
		lo, hi := split(part)
		if hi != noughts(len(hi)) || isFree(lo) {
			break
		}
		part = lo
		nought++
	}
	return free, nought, part
}

// nodesOf a table's diagram: how many.
func nodesOf(table string) int {
	seen := map[string]bool{}
	var walk func(part string)
	walk = func(part string) {
		if part == noughts(len(part)) {
			return
		}
		_, _, part = spared(part)
		if len(part) == 1 || seen[part] {
			return
		}
		seen[part] = true
		lo, hi := split(part)
		walk(lo)
		walk(hi)
	}
	walk(table)
	return len(seen)
}

// copied: a table's diagram without Make, by the records of the nodes that it needs.
func copied(t *testing.T, s *store.Store, part string, l int) api.Edge {
	t.Helper()
	if part == noughts(len(part)) {
		return nothing
	}
	free, nought, part := spared(part)
	tag, top := l+free, l+free+nought
	if len(part) == 1 {
		return one(tag)
	}
	lo, hi := split(part)
	return at(tag, found(t, s, record(top, copied(t, s, lo, top+1), copied(t, s, hi, top+1))))
}

// table of a number's lowest bits.
func table(x uint64, size int) string {
	b := make([]byte, size)
	for i := range b {
		b[i] = '0' + byte(x>>i&1)
	}
	return string(b)
}

// draw a table of so many levels: some even, some sparse, some dense, some made of few parts, some with levels that play no part, some with levels that are 0.
func draw(r *rand.Rand, l int) string {
	kind := r.Intn(7)
	if kind == 3 && l > 2 {
		parts := []string{draw(r, l-2), draw(r, l-2), noughts(1 << (l - 2))}
		var b strings.Builder
		for range 4 {
			b.WriteString(parts[r.Intn(3)])
		}
		return b.String()
	}
	if kind == 4 && l > 0 {
		length := 1 + r.Intn(l)
		return strings.Repeat(draw(r, l-length), 1<<length)
	}
	if kind > 4 && l > 0 {
		length := 1 + r.Intn((l+1)/2)
		part := draw(r, l-length)
		return part + noughts(1<<l-len(part))
	}
	limit := []int{4, 1, 7, 4, 4, 4, 4}[kind]
	b := make([]byte, 1<<l)
	for i := range b {
		b[i] = '0'
		if r.Intn(8) < limit {
			b[i] = '1'
		}
	}
	return string(b)
}

// full: all sets of n variables, in a store with room for just their nodes.
func full(t *testing.T, n int) *store.Store {
	t.Helper()
	size := 1 << n
	s := made(t, n, []int{0, 1, 11, 239}[n])
	for x := range uint64(1) << size {
		built(t, s, table(x, size), 0, lowFirst)
	}
	if s.Len() != s.Room() {
		t.Fatalf("%d nodes of %d", s.Len(), s.Room())
	}
	return s
}

// everything: all nodes that may be of n variables, needed or not, in a store with room for just these.
func everything(t *testing.T, n int) *store.Store {
	t.Helper()
	s := made(t, n, []int{0, 2, 22, 778}[n])
	for l := n - 1; l >= 0; l-- {
		below := leading(s, l+1)
		for _, lo := range below {
			for _, hi := range below {
				if lo != hi {
					found(t, s, record(l, lo, hi))
				}
			}
		}
	}
	if s.Len() != s.Room() {
		t.Fatalf("%d nodes of %d", s.Len(), s.Room())
	}
	return s
}

// mixed: a store with nodes of all forms, those of TBDDs among them told, and the id of the last one.
func mixed(t *testing.T) (s *store.Store, low, top, last uint32) {
	t.Helper()
	s = made(t, 3, 20)
	untagged := one(0)
	found(t, s, api.Record{Form: api.BDD, Top: 2, Bot: 2, Lo: nothing, Hi: untagged})
	found(t, s, api.Record{Form: api.ZDD, Top: 2, Bot: 2, Lo: nothing, Hi: untagged})
	low = found(t, s, record(2, nothing, one(3)))
	found(t, s, api.Record{Form: api.CBDD, Top: 1, Bot: 2, Lo: nothing, Hi: untagged})
	top = found(t, s, record(0, at(2, low), at(1, low)))
	last = found(t, s, api.Record{Form: api.CZDD, Top: 1, Bot: 2, Lo: nothing, Hi: untagged})
	return s, low, top, last
}

func TestExample(t *testing.T) { // P16.1 and P16.2: the chapter's example, and likewise at the last level of more variables
	s := made(t, 1, 0)
	if e := make1(t, s, 0, one(1), one(1)); e != one(1) {
		t.Errorf("Make(0, 1@1, 1@1): %v", e)
	}
	e := make1(t, s, 0, one(1), nothing)
	if e != one(0) || e != (api.Edge{At: 1}) {
		t.Errorf("Make(0, 1@1, nothing): %v", e)
	}
	halves(t, s, e, 0, one(1), nothing)
	halves(t, s, one(1), 0, one(1), one(1))
	if text := node.Text(api.Record{Form: api.TBDD, Lo: one(1), Hi: e}); text != "tbdd 0:0 1@1 1" {
		t.Errorf("the text of both edges: %s", text)
	}
	for n := 1; n <= api.MaxVars; n++ {
		s := made(t, n, 0)
		if all, none := make1(t, s, n-1, one(n), one(n)), make1(t, s, n-1, one(n), nothing); all != one(n) || none != one(n-1) {
			t.Errorf("n %d: %v, %v", n, all, none)
		}
	}
}

func TestMakeAndView(t *testing.T) { // P16.1 and P16.2: by hand
	s := made(t, 4, 20)
	x := make1(t, s, 3, nothing, one(4))
	is(t, s, x, 3, record(3, nothing, one(4)))
	nought := make1(t, s, 2, x, nothing) // the level 2 is 0
	free := make1(t, s, 1, nought, nought)
	if nought != at(2, x.At) || free != nought || s.Len() != 1 {
		t.Fatalf("%v, %v, %v of %d nodes", x, nought, free, s.Len())
	}
	y := make1(t, s, 0, free, nothing) // 0 above a level that plays no part: no tag tells it
	is(t, s, y, 0, record(0, free, nothing))
	z := make1(t, s, 0, free, x)
	is(t, s, z, 0, record(0, free, x))
	halves(t, s, y, 0, free, nothing)
	halves(t, s, z, 0, free, x)
	halves(t, s, free, 0, free, free)
	halves(t, s, free, 1, free, free)
	halves(t, s, free, 2, x, nothing)
	for l := range 3 {
		halves(t, s, x, l, x, x)
	}
	halves(t, s, x, 3, nothing, one(4))
	for _, c := range []struct {
		e    api.Edge
		want string
	}{
		{x, strings.Repeat("01", 8)},
		{free, strings.Repeat("0100", 4)},
		{at(1, x.At), "0100000001000000"},
		{at(0, x.At), "0100000000000000"},
		{y, "0100010000000000"},
		{z, "0100010001010101"},
	} {
		if got := meaning(s, c.e, 0); got != c.want || !Right(s, c.e, 0) {
			t.Errorf("%v means %s, wanted %s", c.e, got, c.want)
		}
	}
	if s.Len() != 3 {
		t.Errorf("%d nodes", s.Len())
	}
}

func TestMakeSame(t *testing.T) { // P16.1: halves that are the same are the edge, and no node is made, in a store without room, too
	for n := 1; n <= api.MaxVars; n++ {
		s := made(t, n, 0)
		for l := range n {
			same := []api.Edge{nothing}
			for tag := l + 1; tag <= n; tag++ {
				same = append(same, one(tag))
			}
			for _, e := range same {
				if got := make1(t, s, l, e, e); got != e || s.Len() != 0 {
					t.Errorf("n %d: Make(%d, %v, %v): %v", n, l, e, e, got)
				}
			}
		}
	}
	for _, s := range []*store.Store{full(t, 3), everything(t, 3)} {
		old := records(s)
		for l := range 3 {
			for _, e := range leading(s, l+1) {
				if got := make1(t, s, l, e, e); got != e {
					t.Errorf("Make(%d, %v, %v): %v", l, e, e, got)
				}
			}
		}
		sameNodes(t, s, old)
	}
}

func TestMakeNought(t *testing.T) { // P16.1: hi nothing, and lo's Tag l + 1: the Tag l, and no node, in a store without room, too
	for n := 1; n <= api.MaxVars; n++ {
		s := made(t, n, 0)
		e := one(n)
		for l := n - 1; l >= 0; l-- {
			if got := make1(t, s, l, one(l+1), nothing); got != one(l) {
				t.Errorf("n %d: Make(%d, 1@%d, nothing): %v", n, l, l+1, got)
			}
			e = make1(t, s, l, e, nothing)
		}
		if e != one(0) || s.Len() != 0 {
			t.Errorf("n %d: noughts alone: %v, of %d nodes", n, e, s.Len())
		}
		s = made(t, n, 1)
		id := found(t, s, record(n-1, nothing, one(n)))
		for l := n - 2; l >= 0; l-- {
			if got := make1(t, s, l, at(l+1, id), nothing); got != at(l, id) || s.Len() != 1 {
				t.Errorf("n %d: Make(%d, %d@%d, nothing): %v", n, l, id, l+1, got)
			}
		}
	}
}

func TestMakeNode(t *testing.T) { // P16.1: hi nothing, and lo's Tag above l + 1, or hi not to nothing: a node l:l, and the Tag l
	for n := 1; n <= api.MaxVars; n++ {
		for l := range n {
			for tag := l + 1; tag <= n; tag++ {
				for _, c := range [][2]api.Edge{{one(tag), nothing}, {nothing, one(tag)}, {one(l + 1), one(tag)}, {one(tag), one(l + 1)}, {one(n), one(tag)}} {
					if _, ok := withoutNode(l, c[0], c[1]); ok {
						continue
					}
					noMake(t, made(t, n, 0), l, c[0], c[1], api.Full)
					s := made(t, n, 1)
					e := make1(t, s, l, c[0], c[1])
					is(t, s, e, l, record(l, c[0], c[1]))
					halves(t, s, e, l, c[0], c[1])
					if e.At != 2 || s.Len() != 1 || !Right(s, e, l) || make1(t, s, l, c[0], c[1]) != e {
						t.Errorf("n %d: Make(%d, %v, %v): %v", n, l, c[0], c[1], e)
					}
				}
			}
		}
	}
}

func TestMakeNodeAbove(t *testing.T) { // P16.1: likewise, above a node, by its tags
	s := made(t, 5, 20)
	low := make1(t, s, 3, nothing, one(5))
	x := low.At
	for _, c := range []struct {
		l      int
		lo, hi api.Edge
		node   bool
	}{
		{2, low, nothing, false},
		{1, low, nothing, true},
		{0, low, nothing, true},
		{1, at(2, x), nothing, false},
		{0, at(2, x), nothing, true},
		{0, at(1, x), nothing, false},
		{2, nothing, low, true},
		{1, nothing, at(2, x), true},
		{2, low, one(3), true},
		{1, at(2, x), low, true}, // one node, by two tags
		{1, low, at(2, x), true},
		{0, at(1, x), at(3, x), true},
		{1, at(2, x), at(2, x), false},
		{4, one(5), nothing, false},
		{4, nothing, one(5), true},
	} {
		e := make1(t, s, c.l, c.lo, c.hi)
		if c.node {
			is(t, s, e, c.l, record(c.l, c.lo, c.hi))
		} else if want, _ := withoutNode(c.l, c.lo, c.hi); e != want {
			t.Errorf("Make(%d, %v, %v): %v, wanted %v", c.l, c.lo, c.hi, e, want)
		}
		means(t, s, c.l, c.lo, c.hi, e)
	}
}

func TestEndsViewed(t *testing.T) { // P16.2 and P16.3: nothing, and one with each Tag, at each level
	for n := range api.MaxVars + 1 {
		s := made(t, n, 0)
		for l := range n {
			halves(t, s, nothing, l, nothing, nothing)
			halves(t, s, one(l), l, one(l+1), nothing)
			for tag := l + 1; tag <= n; tag++ {
				halves(t, s, one(tag), l, one(tag), one(tag))
			}
			for tag := range l {
				noView(t, s, one(tag), l, api.Arg)
			}
		}
		for l := range n + 1 {
			for tag := range 256 {
				if want := tag >= l && tag <= n; Right(s, one(tag), l) != want {
					t.Errorf("n %d: Right(1@%d, %d) is %v", n, tag, l, !want)
				}
				if want := tag == 0; Right(s, at(tag, 0), l) != want {
					t.Errorf("n %d: Right(0@%d, %d) is %v", n, tag, l, !want)
				}
			}
		}
		for _, l := range []int{n, n + 1, -1, math.MinInt, math.MaxInt} {
			noView(t, s, one(n), l, api.Var)
			noView(t, s, nothing, l, api.Var)
			noMake(t, s, l, one(n), one(n), api.Var)
			noMake(t, s, l, one(n), nothing, api.Var)
			if l != n && (Right(s, one(n), l) || Right(s, nothing, l)) {
				t.Errorf("n %d: right at %d", n, l)
			}
		}
	}
}

func TestViewOfTags(t *testing.T) { // P16.2 and P16.3: one node by each Tag, at each level
	for n := 1; n <= api.MaxVars; n++ {
		for top := range n {
			s := made(t, n, 1)
			id := found(t, s, record(top, nothing, one(n)))
			for tag := range n + 2 {
				e := at(tag, id)
				for l := range n + 1 {
					want := l <= tag && tag <= top
					if Right(s, e, l) != want {
						t.Errorf("n %d, Top %d: Right(%v, %d) is %v", n, top, e, l, !want)
					}
					if l == n {
						noView(t, s, e, l, api.Var)
						continue
					}
					if !want {
						noView(t, s, e, l, api.Arg)
						continue
					}
					switch {
					case l < tag:
						halves(t, s, e, l, e, e)
					case l == top:
						halves(t, s, e, l, nothing, one(n))
					default:
						halves(t, s, e, l, at(l+1, id), nothing)
					}
				}
			}
		}
	}
}

func TestTagsAreSets(t *testing.T) { // Words: of one node each edge means another set, by its tag alone
	s := made(t, 5, 1)
	id := found(t, s, record(4, nothing, one(5)))
	seen := map[string]int{}
	for tag := range 5 {
		set := meaning(s, at(tag, id), 0)
		if old, ok := seen[set]; ok {
			t.Errorf("the tags %d and %d mean %s", old, tag, set)
		}
		seen[set] = tag
		if e := built(t, s, set, 0, lowFirst); e != at(tag, id) {
			t.Errorf("%s is %v, wanted %v", set, e, at(tag, id))
		}
	}
	if s.Len() != 1 {
		t.Errorf("%d nodes", s.Len())
	}
}

func TestEachPair(t *testing.T) { // P16.1 and P16.4: all halves of small stores, at each level, by the Words
	for n := 1; n <= 3; n++ {
		s := full(t, n)
		old := records(s)
		for l := range n {
			below := leading(s, l+1)
			if sets := 1 << (1 << (n - l - 1)); len(below) != sets {
				t.Fatalf("n %d, level %d: %d edges, wanted %d", n, l, len(below), sets)
			}
			for _, lo := range below {
				for _, hi := range below {
					makes(t, s, l, lo, hi)
					halves(t, s, make1(t, s, l, lo, hi), l, lo, hi)
				}
			}
		}
		sameNodes(t, s, old)
	}
}

func TestEachPairOfEverything(t *testing.T) { // P16.1: all halves of all nodes that may be, needed or not
	for n := 1; n <= 2; n++ {
		s := everything(t, n)
		old := records(s)
		all := anyEdges(n, uint32(s.Len()+1))
		for l := -1; l <= n; l++ {
			for _, lo := range all {
				for _, hi := range all {
					if canLead(s, lo, l+1) && canLead(s, hi, l+1) && l < n {
						makes(t, s, l, lo, hi)
						continue
					}
					noMake(t, s, l, lo, hi, wrong(s, l, l+1, lo, hi))
				}
			}
		}
		sameNodes(t, s, old)
	}
	s := everything(t, 3)
	old := records(s)
	for l := range 3 {
		below := leading(s, l+1)
		for _, lo := range below {
			for _, hi := range below {
				e := make1(t, s, l, lo, hi)
				if want, ok := withoutNode(l, lo, hi); ok && e != want {
					t.Fatalf("Make(%d, %v, %v): %v, wanted %v", l, lo, hi, e, want)
				} else if !ok {
					is(t, s, e, l, record(l, lo, hi))
				}
				means(t, s, l, lo, hi, e)
			}
		}
	}
	sameNodes(t, s, old)
}

func TestEachEdge(t *testing.T) { // P16.2 to P16.4: all edges at all levels, in stores with no room left
	for n := range 4 {
		for _, s := range []*store.Store{full(t, n), everything(t, n)} {
			old := records(s)
			for _, e := range anyEdges(n, uint32(s.Len()+1)) {
				for _, l := range levels(n) {
					views(t, s, e, l)
				}
			}
			sameNodes(t, s, old)
		}
	}
}

func TestOnlyOneIsRight(t *testing.T) { // P16.3 and P16.4: of all nodes that may be just one edge a set is right, and it is what Make tells
	for n := range 4 {
		s := everything(t, n)
		for l := range n + 1 {
			of := map[string]api.Edge{}
			for _, e := range leading(s, l) {
				if !Right(s, e, l) {
					continue
				}
				set := meaning(s, e, l)
				if other, ok := of[set]; ok {
					t.Fatalf("n %d, level %d: %v and %v mean %s", n, l, other, e, set)
				}
				of[set] = e
			}
			if sets := 1 << (1 << (n - l)); len(of) != sets {
				t.Fatalf("n %d, level %d: edges of %d sets, wanted %d", n, l, len(of), sets)
			}
			for set, e := range of {
				size := len(s.Reach([]api.Edge{e}))
				if size != nodesOf(set) || built(t, s, set, l, lowFirst) != e || copied(t, s, set, l) != e {
					t.Fatalf("n %d, level %d: %s has %d nodes, wanted %d", n, l, set, size, nodesOf(set))
				}
			}
		}
	}
}

func TestRight(t *testing.T) { // P16.3: by hand
	s := made(t, 5, 30)
	low := found(t, s, record(4, nothing, one(5)))
	vain := found(t, s, record(3, at(4, low), nothing))  // a tag would tell it
	vainEnd := found(t, s, record(3, one(4), nothing))   // likewise, above one
	gap := found(t, s, record(2, at(4, low), nothing))   // the level 3 plays no part
	gapEnd := found(t, s, record(2, one(4), nothing))    // likewise, above one
	upper := found(t, s, record(3, nothing, at(4, low))) // Lo leads to nothing
	either := found(t, s, record(3, at(4, low), one(4))) // neither does
	stays := []api.Edge{at(3, vain), at(3, vainEnd), at(2, gap), at(2, gapEnd), at(3, upper), at(3, either)}
	for _, c := range []struct {
		r    api.Record
		want bool
	}{
		{record(4, nothing, one(5)), true},
		{record(4, one(5), nothing), false}, // at the last level
		{record(3, at(4, low), nothing), false},
		{record(3, one(4), nothing), false},
		{record(3, one(5), nothing), true},
		{record(2, at(4, low), nothing), true},
		{record(2, at(3, low), nothing), false}, // its tag counts, not its Top
		{record(2, one(4), nothing), true},
		{record(2, one(3), nothing), false},
		{record(1, at(2, gap), nothing), false},
		{record(0, at(2, gap), nothing), true},
		{record(0, at(1, gap), nothing), false},
		{record(1, at(2, gap), one(2)), true},  // Hi isn't nothing
		{record(1, nothing, at(2, gap)), true}, // Lo is nothing
		{record(1, at(2, gapEnd), at(2, gap)), true},
		{record(1, at(3, either), nothing), true},
		{record(1, at(2, either), nothing), false},
		{record(0, at(3, upper), at(1, either)), true},
		{record(2, at(3, vain), one(3)), false}, // reached by Lo
		{record(2, one(3), at(3, vain)), false}, // reached by Hi
		{record(1, at(3, vain), nothing), false},
		{record(1, nothing, at(2, vain)), false},
		{record(0, nothing, at(3, vainEnd)), false},
		{record(0, at(3, vainEnd), at(3, vain)), false},
		{record(0, at(3, upper), at(3, vain)), false},
		{record(0, at(3, vainEnd), at(2, gap)), false},
	} {
		id := found(t, s, c.r)
		for tag := range 7 {
			for l := range 6 {
				if want := c.want && l <= tag && tag <= int(c.r.Top); Right(s, at(tag, id), l) != want {
					t.Errorf("Right of %s with the tag %d at %d is %v", node.Text(c.r), tag, l, !want)
				}
			}
		}
		s.Sweep(stays)
	}
}

func TestRightFarBelow(t *testing.T) { // P16.3: the one node that isn't needed is at the bottom of sixteen levels, with two nodes at each
	for _, isVain := range []bool{true, false} {
		s := made(t, 16, 100)
		low := at(15, found(t, s, record(15, nothing, one(16))))
		a, b := at(14, found(t, s, record(14, one(15), low))), at(14, found(t, s, record(14, low, one(15))))
		if isVain {
			b = at(14, found(t, s, record(14, low, nothing)))
		}
		for l := 13; l >= 0; l-- {
			a, b = at(l, found(t, s, record(l, a, b))), at(l, found(t, s, record(l, b, a)))
		}
		if Right(s, a, 0) == isVain || Right(s, b, 0) == isVain || !Right(s, low, 0) || Right(s, a, 1) {
			t.Errorf("Right, where a node isn't needed: %v", isVain)
		}
	}
}

func TestMakeOfVainNodes(t *testing.T) { // P16.1 and P16.2: edges that lead are taken, right or not
	s := made(t, 4, 10)
	vain := found(t, s, record(2, one(3), nothing))
	e := make1(t, s, 1, at(2, vain), nothing)
	if e != at(1, vain) || Right(s, e, 1) {
		t.Errorf("Make(1, %d@2, nothing): %v", vain, e)
	}
	halves(t, s, e, 0, e, e)
	halves(t, s, e, 1, at(2, vain), nothing)
	halves(t, s, at(2, vain), 2, one(3), nothing)
	if again := make1(t, s, 2, one(3), nothing); again != one(2) {
		t.Errorf("Make(2, 1@3, nothing): %v", again)
	}
	is(t, s, make1(t, s, 0, e, at(2, vain)), 0, record(0, e, at(2, vain)))
}

func TestWrongMake(t *testing.T) { // P16.1: the first error that holds, and no node beside it
	s, low, top, last := mixed(t)
	old := records(s)
	for _, l := range levels(3) {
		for _, lo := range anyEdges(3, last) {
			for _, hi := range []api.Edge{nothing, one(0), one(1), one(3), one(4), at(1, 0), at(2, low), at(3, low), at(0, top), lo, at(1, 2), at(2, last), at(1, last+1)} {
				for _, pair := range [][2]api.Edge{{lo, hi}, {hi, lo}} {
					noMake(t, nil, l, pair[0], pair[1], api.Nil)
					if want := wrong(s, l, l+1, pair[0], pair[1]); want != api.OK {
						noMake(t, s, l, pair[0], pair[1], want)
					}
				}
			}
		}
	}
	sameNodes(t, s, old)
}

func TestWrongMakeByHand(t *testing.T) { // P16.1: one by one
	s, low, top, last := mixed(t)
	noNode, otherForm := at(1, last+9), at(1, 2)
	for _, c := range []struct {
		s      *store.Store
		l      int
		lo, hi api.Edge
		want   api.Err
	}{
		{nil, -1, noNode, otherForm, api.Nil},
		{nil, 0, one(1), one(1), api.Nil},
		{nil, 0, nothing, nothing, api.Nil},
		{s, -1, noNode, otherForm, api.Var},
		{s, 3, noNode, noNode, api.Var},
		{s, 3, one(3), one(3), api.Var},
		{s, 3, nothing, nothing, api.Var},
		{s, -1, one(0), nothing, api.Var},
		{s, math.MaxInt, nothing, one(3), api.Var},
		{s, math.MinInt, one(3), nothing, api.Var},
		{s, 256, nothing, one(1), api.Var},
		{s, 0, one(0), one(3), api.Arg}, // a Tag below the level
		{s, 0, one(3), one(0), api.Arg},
		{s, 0, one(0), one(0), api.Arg},
		{s, 0, one(0), nothing, api.Arg},
		{s, 2, one(2), nothing, api.Arg},
		{s, 2, one(2), one(2), api.Arg},
		{s, 2, nothing, one(1), api.Arg},
		{s, 0, one(4), one(3), api.Arg}, // above n
		{s, 0, one(3), one(4), api.Arg},
		{s, 0, one(4), one(4), api.Arg},
		{s, 2, one(4), nothing, api.Arg},
		{s, 0, one(255), nothing, api.Arg},
		{s, 0, at(3, low), one(3), api.Arg}, // above its node's Top
		{s, 0, one(3), at(3, low), api.Arg},
		{s, 0, at(3, low), at(3, low), api.Arg},
		{s, 0, at(3, low), nothing, api.Arg},
		{s, 0, at(0, low), one(3), api.Arg}, // below the level, of a node
		{s, 0, at(0, low), nothing, api.Arg},
		{s, 1, at(1, low), at(2, low), api.Arg},
		{s, 1, at(2, low), at(1, low), api.Arg},
		{s, 0, at(1, 0), one(3), api.Arg}, // to nothing, by a Tag
		{s, 0, one(1), at(1, 0), api.Arg},
		{s, 0, at(1, 0), at(1, 0), api.Arg},
		{s, 0, at(1, 0), nothing, api.Arg},
		{s, 2, nothing, at(3, 0), api.Arg},
		{s, 0, one(1), at(3, 0), api.Arg},
		{s, 0, otherForm, one(3), api.Arg},
		{s, 0, one(3), otherForm, api.Arg},
		{s, 0, otherForm, otherForm, api.Arg},
		{s, 0, otherForm, nothing, api.Arg},
		{s, 1, at(2, 2), nothing, api.Arg},
		{s, 0, at(0, 2), nothing, api.Arg},
		{s, 0, at(1, 5), nothing, api.Arg}, // of a CBDD
		{s, 0, at(1, last), at(1, last), api.Arg},
		{s, 0, noNode, one(3), api.Arg},
		{s, 0, one(3), noNode, api.Arg},
		{s, 0, noNode, noNode, api.Arg},
		{s, 0, noNode, nothing, api.Arg},
		{s, 2, at(2, low), one(3), api.Arg}, // a node that stands at the level of the new one
		{s, 2, one(3), at(2, low), api.Arg},
		{s, 2, at(2, low), at(2, low), api.Arg},
		{s, 2, at(3, low), nothing, api.Arg},
		{s, 0, at(0, top), one(3), api.Arg},
		{s, 0, one(3), at(0, top), api.Arg},
		{s, 0, at(0, top), at(0, top), api.Arg},
		{s, 0, at(1, top), nothing, api.Arg},
	} {
		noMake(t, c.s, c.l, c.lo, c.hi, c.want)
	}
	if got := make1(t, s, 1, at(2, low), nothing); got != at(1, low) {
		t.Errorf("Make(1, low, nothing): %v", got)
	}
	if got := make1(t, s, 0, at(2, low), nothing); got != at(0, last+1) {
		t.Errorf("Make(0, low, nothing): %v", got)
	}
}

func TestWrongViewByHand(t *testing.T) { // P16.2: one by one
	s, low, top, last := mixed(t)
	old := records(s)
	for _, c := range []struct {
		s    *store.Store
		e    api.Edge
		l    int
		want api.Err
	}{
		{nil, at(1, last+9), -1, api.Nil},
		{nil, one(3), 0, api.Nil},
		{nil, nothing, 0, api.Nil},
		{s, at(1, last+9), -1, api.Var},
		{s, one(4), 3, api.Var},
		{s, one(3), 3, api.Var},
		{s, nothing, 3, api.Var},
		{s, one(3), math.MaxInt, api.Var},
		{s, one(3), math.MinInt, api.Var},
		{s, nothing, -1, api.Var},
		{s, one(0), 256, api.Var},
		{s, at(2, low), 258, api.Var},
		{s, one(0), 1, api.Arg}, // a Tag below the level
		{s, one(1), 2, api.Arg},
		{s, one(4), 0, api.Arg}, // above n
		{s, one(255), 2, api.Arg},
		{s, at(3, low), 0, api.Arg}, // above its node's Top
		{s, at(3, low), 2, api.Arg},
		{s, at(1, top), 0, api.Arg},
		{s, at(1, low), 2, api.Arg},
		{s, at(0, low), 1, api.Arg},
		{s, at(1, 0), 0, api.Arg}, // to nothing, by a Tag
		{s, at(1, 0), 1, api.Arg},
		{s, at(3, 0), 0, api.Arg},
		{s, at(0, 2), 0, api.Arg}, // of other forms
		{s, at(2, 2), 2, api.Arg},
		{s, at(2, 3), 0, api.Arg},
		{s, at(1, 5), 1, api.Arg},
		{s, at(1, last), 1, api.Arg},
		{s, at(0, last+1), 0, api.Arg}, // no node's
		{s, at(2, last+9), 0, api.Arg},
		{s, at(0, top), 1, api.Arg},
		{s, at(1, top), 1, api.Arg},
	} {
		noView(t, c.s, c.e, c.l, c.want)
	}
	halves(t, s, at(0, top), 0, at(2, low), at(1, low))
	halves(t, s, at(2, low), 0, at(2, low), at(2, low))
	halves(t, s, at(0, low), 0, at(1, low), nothing)
	halves(t, s, at(2, low), 2, nothing, one(3))
	sameNodes(t, s, old)
}

func TestOtherForms(t *testing.T) { // P16.1 to P16.3: beside nodes of other forms, and behind them
	s, low, top, last := mixed(t)
	old := records(s)
	for _, e := range anyEdges(3, last) {
		for _, l := range levels(3) {
			views(t, s, e, l)
		}
	}
	sameNodes(t, s, old)
	for id := range last + 2 {
		want := id < 2 || id == low || id == top
		if Right(s, at(0, id), 0) != want {
			t.Errorf("Right(%d, 0) is %v", id, !want)
		}
	}
	if e := make1(t, s, 2, nothing, one(3)); e != at(2, low) {
		t.Errorf("Make tells %v of a set whose edge is %d@2", e, low)
	}
	if e := make1(t, s, 1, nothing, one(3)); e != at(1, last+1) {
		t.Errorf("Make tells %v, wanted the id %d", e, last+1)
	}
}

func TestNoVariables(t *testing.T) { // P16.1 to P16.3: of a store for 0 variables, and of one that New didn't make
	for _, s := range []*store.Store{made(t, 0, 5), {}} {
		for _, e := range anyEdges(0, 3) {
			for _, l := range levels(0) {
				noMake(t, s, l, e, e, api.Var)
				noMake(t, s, l, one(0), e, api.Var)
				noMake(t, s, l, e, nothing, api.Var)
				views(t, s, e, l)
			}
		}
		if !Right(s, one(0), 0) || !Right(s, nothing, 0) || Right(s, one(1), 0) || Right(s, one(1), 1) || s.Len() != 0 {
			t.Error("nothing and one are right at the level 0 alone")
		}
	}
}

func TestNil(t *testing.T) { // P16.1 to P16.3: of a nil store
	for _, e := range anyEdges(1, 3) {
		for _, l := range levels(0) {
			noMake(t, nil, l, e, e, api.Nil)
			noMake(t, nil, l, e, nothing, api.Nil)
			noMake(t, nil, l, one(1), e, api.Nil)
			noView(t, nil, e, l, api.Nil)
			if Right(nil, e, l) {
				t.Fatalf("Right(nil, %v, %d)", e, l)
			}
		}
	}
}

func TestSixteen(t *testing.T) { // P16.1 to P16.5: of sixteen variables: all assignments, that of noughts alone, that of 1 at all
	s := made(t, 16, 0)
	all, none := one(16), one(16)
	for l := 15; l >= 0; l-- {
		all, none = make1(t, s, l, all, all), make1(t, s, l, none, nothing)
		if !Right(s, all, l) || !Right(s, none, l) || Right(s, none, l+1) {
			t.Errorf("level %d: %v, %v", l, all, none)
		}
	}
	if all != one(16) || none != one(0) {
		t.Errorf("all assignments: %v, noughts alone: %v", all, none)
	}
	for l := range 16 {
		halves(t, s, all, l, all, all)
		halves(t, s, none, l, one(l+1), nothing)
		none = one(l + 1)
	}
	for _, room := range []int{16, 15} {
		sixteen(t, room)
	}
}

// sixteen nodes, one at each level: of the assignment of 1 at all.
func sixteen(t *testing.T, room int) {
	t.Helper()
	s := made(t, 16, room)
	e := one(16)
	for l := 15; l >= 0; l-- {
		if s.Len() == room {
			noMake(t, s, l, nothing, e, api.Full)
			return
		}
		above := make1(t, s, l, nothing, e)
		is(t, s, above, l, record(l, nothing, e))
		halves(t, s, above, l, nothing, e)
		if s.Len() != 16-l || !Right(s, above, l) || Right(s, above, l+1) {
			t.Fatalf("level %d: %v, of %d nodes", l, above, s.Len())
		}
		e = above
	}
	if room != 16 {
		t.Errorf("room for %d is enough", room)
	}
}

func TestFull(t *testing.T) { // P16.1 and P16.2: a node that is there is told still, a new one tells Full; View never does
	s := made(t, 3, 2)
	low := make1(t, s, 2, nothing, one(3))
	top := make1(t, s, 0, low, at(1, low.At))
	old := records(s)
	for range 3 {
		for _, c := range []struct {
			l            int
			lo, hi, want api.Edge
		}{
			{2, nothing, one(3), low}, {0, low, at(1, low.At), top}, {1, low, low, low}, {1, low, nothing, at(1, low.At)},
			{0, at(1, low.At), nothing, at(0, low.At)}, {0, low, low, low}, {2, one(3), nothing, one(2)}, {0, nothing, nothing, nothing},
		} {
			if got := make1(t, s, c.l, c.lo, c.hi); got != c.want {
				t.Errorf("Make(%d, %v, %v): %v, wanted %v", c.l, c.lo, c.hi, got, c.want)
			}
		}
		for _, c := range []struct {
			l      int
			lo, hi api.Edge
		}{{1, nothing, one(3)}, {1, one(3), nothing}, {1, nothing, low}, {0, low, nothing}, {0, at(1, low.At), low}, {0, one(1), one(2)}, {1, low, one(2)}} {
			noMake(t, s, c.l, c.lo, c.hi, api.Full)
		}
		// An edge that doesn't lead is looked for before room is.
		noMake(t, s, 0, top, one(3), api.Arg)
		noMake(t, s, 0, one(3), at(3, low.At), api.Arg)
		noMake(t, s, 1, nothing, at(1, 0), api.Arg)
		for _, e := range []api.Edge{nothing, one(0), one(1), one(3), low, top, at(0, low.At), at(1, low.At)} {
			for l := range 3 {
				views(t, s, e, l)
			}
		}
		sameNodes(t, s, old)
	}
	s.Sweep([]api.Edge{low})
	if got := make1(t, s, 1, low, one(2)); got != at(1, top.At) {
		t.Errorf("behind Sweep: %v, wanted the id that came free", got)
	}
}

func TestSwept(t *testing.T) { // P16.1 to P16.3: an edge whose node went leads nowhere
	s := made(t, 3, 5)
	low := make1(t, s, 2, nothing, one(3))
	if gone := s.Sweep(nil); gone != 1 {
		t.Fatalf("%d went", gone)
	}
	nowhere(t, s, low.At)
	if id := found(t, s, api.Record{Form: api.BDD, Top: 2, Bot: 2, Lo: nothing, Hi: one(0)}); id != low.At {
		t.Fatalf("%d, wanted the id that came free", id)
	}
	nowhere(t, s, low.At)
}

// nowhere: an id whose edges lead at no level.
func nowhere(t *testing.T, s *store.Store, id uint32) {
	t.Helper()
	for tag := range 5 {
		e := at(tag, id)
		for l := range s.Vars() {
			if Right(s, e, l) {
				t.Errorf("Right(%v, %d)", e, l)
			}
			noMake(t, s, l, e, e, api.Arg)
			noMake(t, s, l, one(3), e, api.Arg)
			noMake(t, s, l, e, one(3), api.Arg)
			noMake(t, s, l, e, nothing, api.Arg)
			noView(t, s, e, l, api.Arg)
		}
	}
}

func TestDownToTheEnd(t *testing.T) { // P16.1, P16.2 and P16.4: each edge viewed level by level, down to nothing and one
	r := rand.New(rand.NewSource(16))
	for n := range 10 {
		s := made(t, n, api.MaxRoom)
		for range 6 {
			want := draw(r, n)
			e := built(t, s, want, 0, lowFirst)
			old := records(s)
			if got := viewed(t, s, e, 0); got != want || meaning(s, e, 0) != want {
				t.Fatalf("n %d: the edge of %s means %s", n, want, got)
			}
			sameNodes(t, s, old)
		}
	}
}

// viewed: the table that View tells, from l down; Make of its halves tells the edge again.
func viewed(t *testing.T, s *store.Store, e api.Edge, l int) string {
	t.Helper()
	if !Right(s, e, l) {
		t.Fatalf("%v isn't right at %d", e, l)
	}
	if l == s.Vars() {
		if e != nothing && e != one(l) {
			t.Fatalf("%v at the end", e)
		}
		return string('0' + byte(e.At))
	}
	lo, hi, err := View(s, e, l)
	if err != api.OK {
		t.Fatalf("View(%v, %d): %v", e, l, err)
	}
	if again := make1(t, s, l, lo, hi); again != e {
		t.Fatalf("Make(%d, %v, %v): %v, wanted %v", l, lo, hi, again, e)
	}
	return viewed(t, s, lo, l+1) + viewed(t, s, hi, l+1)
}

func TestEdgesAtLevels(t *testing.T) { // P16.2 and P16.3: each edge of a drawn diagram at each level, at which it leads and at which it doesn't
	r := rand.New(rand.NewSource(162))
	for n := range 7 {
		for range 8 {
			s := made(t, n, api.MaxRoom)
			built(t, s, draw(r, n), 0, drawn)
			old := records(s)
			for _, r := range old {
				for _, e := range []api.Edge{r.Lo, r.Hi} {
					for _, l := range levels(n) {
						views(t, s, e, l)
					}
				}
			}
			sameNodes(t, s, old)
		}
	}
}

func TestDrawnTwice(t *testing.T) { // P16.4: sets drawn, made again in other orders, in one store
	r := rand.New(rand.NewSource(164))
	for n := range 9 {
		s := made(t, n, api.MaxRoom)
		// Of each level by itself: an edge means other sets at other levels.
		of := make([]map[string]api.Edge, n+1)
		sets := make([]map[api.Edge]string, n+1)
		for l := range n + 1 {
			of[l], sets[l] = map[string]api.Edge{}, map[api.Edge]string{}
		}
		for range 60 {
			l := r.Intn(n + 1)
			want := draw(r, n-l)
			e := built(t, s, want, l, r.Intn(3))
			if l == 0 {
				if again := byLevels(t, s, want); again != e {
					t.Fatalf("%s is %v, then %v", want, e, again)
				}
			}
			for way := range 3 {
				if again := built(t, s, want, l, way); again != e {
					t.Fatalf("%s is %v, then %v", want, e, again)
				}
			}
			if again := copied(t, s, want, l); again != e || !Right(s, e, l) || meaning(s, e, l) != want {
				t.Fatalf("%s at %d: %v, wanted %v", want, l, e, again)
			}
			if old, ok := of[l][want]; ok && old != e {
				t.Fatalf("%s at %d is %v, and %v", want, l, old, e)
			}
			if old, ok := sets[l][e]; ok && old != want {
				t.Fatalf("%v at %d means %s, and %s", e, l, old, want)
			}
			of[l][want], sets[l][e] = e, want
		}
	}
}

func TestRoom(t *testing.T) { // P16.4 and P16.5: room for just its nodes is enough, one less isn't; in the full store it is made and viewed again
	r := rand.New(rand.NewSource(165))
	for n := range 11 {
		for range 12 {
			set := draw(r, n)
			count := nodesOf(set)
			for way := range 3 {
				s := made(t, n, count)
				e := built(t, s, set, 0, way)
				if s.Len() != count || len(s.Reach([]api.Edge{e})) != count || meaning(s, e, 0) != set {
					t.Fatalf("%s: %d nodes, wanted %d", set, s.Len(), count)
				}
				old := records(s)
				if again := built(t, s, set, 0, (way+1)%3); again != e || byLevels(t, s, set) != e || viewed(t, s, e, 0) != set {
					t.Fatalf("%s in a full store: %v, was %v", set, again, e)
				}
				sameNodes(t, s, old)
				if count == 0 {
					continue
				}
				s = made(t, n, count-1)
				if e, err := build(s, set, 0, way); e != nothing || err != api.Full || s.Len() != count-1 {
					t.Fatalf("%s with room for one less: %v, %v, %d nodes", set, e, err, s.Len())
				}
			}
		}
	}
}

func TestSingles(t *testing.T) { // P16.5: a set of one assignment has a node for each level at which it has 1
	for n := range 8 {
		for x := range 1 << n {
			want := noughts(x) + "1" + noughts(1<<n-x-1)
			count := strings.Count(table(uint64(x), n), "1")
			s := made(t, n, count)
			if e := built(t, s, want, 0, lowFirst); s.Len() != count || meaning(s, e, 0) != want {
				t.Fatalf("%s: %v, of %d nodes", want, e, s.Len())
			}
		}
	}
}

func TestDrawnCalls(t *testing.T) { // P16.1 to P16.4, R2: a long run of drawn calls, in stores of little room, with nodes that aren't needed
	r := rand.New(rand.NewSource(1604))
	for n := range 7 {
		for _, room := range []int{0, 1, 3, 10, 40} {
			s := made(t, n, room)
			for range 1500 {
				drawnCall(t, r, s)
			}
		}
	}
}

// drawnCall: one call of View and one of Make, held against the Words; now and then a node is found by its record, or what isn't reached goes.
func drawnCall(t *testing.T, r *rand.Rand, s *store.Store) {
	t.Helper()
	l := r.Intn(s.Vars()+3) - 1
	pick := func(where int) api.Edge {
		list := []api.Edge{nothing}
		if where >= 0 && where <= s.Vars() {
			list = leading(s, where)
		}
		e := list[r.Intn(len(list))]
		switch r.Intn(15) {
		case 0:
			e.Tag = uint8(r.Intn(s.Vars() + 2))
		case 1:
			e.At = uint32(r.Intn(s.Room() + 3))
		}
		return e
	}
	lo, hi := pick(l+1), pick(l+1)
	switch r.Intn(60) {
	case 0:
		s.Sweep([]api.Edge{lo, hi})
	case 1, 2, 3, 4:
		// Some of these can't be, and are refused.
		s.Find(record(l, lo, hi))
	}
	old := records(s)
	views(t, s, pick(l), l)
	sameNodes(t, s, old)
	makes(t, s, l, lo, hi)
	makes(t, s, l, lo, nothing)
}

func TestNothingPanics(t *testing.T) { // R1, R2, R6: drawn arguments of any kind, and the same again
	r := rand.New(rand.NewSource(1))
	stores := []*store.Store{nil, {}, made(t, 0, 3), full(t, 2), everything(t, 2), made(t, 16, 0), made(t, 16, 50)}
	ends := levels(2)
	edge := func() api.Edge {
		return at(r.Intn(256)>>r.Intn(9), r.Uint32()>>r.Intn(33))
	}
	for range 200000 {
		s := stores[r.Intn(len(stores))]
		l, lo, hi := r.Intn(17), edge(), edge()
		if r.Intn(4) == 0 {
			l = ends[r.Intn(len(ends))]
		}
		e, err := Make(s, l, lo, hi)
		if again, same := Make(s, l, lo, hi); again != e || same != err || err != api.OK && e != nothing {
			t.Fatalf("Make(%d, %v, %v): %v, %v, then %v, %v", l, lo, hi, e, err, again, same)
		}
		size := s.Len()
		a, b, err := View(s, lo, l)
		if c, d, same := View(s, lo, l); a != c || b != d || err != same || err != wrong(s, l, l, lo) || s.Len() != size {
			t.Fatalf("View(%v, %d): %v, %v, %v, then %v, %v, %v", lo, l, a, b, err, c, d, same)
		}
		if Right(s, lo, l) != right(s, lo, l) {
			t.Fatalf("Right(%v, %d) is %v", lo, l, !right(s, lo, l))
		}
	}
}
