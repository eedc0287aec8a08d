package czdd

import (
	"math"
	"math/rand"
	"strings"
	"testing"

	"ramage/api"
	"ramage/node"
	"ramage/store"
)

var (
	nothing = api.Edge{}
	one     = api.Edge{At: 1}
)

// at: an edge without a tag.
func at(id uint32) api.Edge { return api.Edge{At: id} }

// chain: a record of a node.
func chain(top, bot int, lo, hi api.Edge) api.Record {
	return api.Record{Form: api.CZDD, Top: uint8(top), Bot: uint8(bot), Lo: lo, Hi: hi}
}

// made: a store.
func made(t *testing.T, n, room int) *store.Store {
	t.Helper()
	s, err := store.New(n, room)
	if err != api.OK || s == nil {
		t.Fatalf("New(%d, %d): %v", n, room, err)
	}
	return s
}

// found: an edge to the node of a record that may be.
func found(t *testing.T, s *store.Store, r api.Record) api.Edge {
	t.Helper()
	id, err := s.Find(r)
	if err != api.OK {
		t.Fatalf("Find(%v): %v", r, err)
	}
	return at(id)
}

// is: has an edge a node of this record, and no tag?
func is(t *testing.T, s *store.Store, e api.Edge, want api.Record) {
	t.Helper()
	if r, ok := s.Get(e.At); !ok || r != want || e.Tag != 0 {
		t.Errorf("%v is %s, wanted %s", e, node.Text(r), node.Text(want))
	}
}

// make1: Make, where it must tell an edge.
func make1(t *testing.T, s *store.Store, l int, lo, hi api.Edge) api.Edge {
	t.Helper()
	e, err := Make(s, l, lo, hi)
	if err != api.OK {
		t.Fatalf("Make(%d, %v, %v): %v", l, lo, hi, err)
	}
	return e
}

// noMake: Make, where it must tell an error.
func noMake(t *testing.T, s *store.Store, l int, lo, hi api.Edge, want api.Err) {
	t.Helper()
	if e, err := Make(s, l, lo, hi); e != nothing || err != want {
		t.Fatalf("Make(%d, %v, %v): %v, %v, wanted %v", l, lo, hi, e, err, want)
	}
}

// halves: View, where it must tell these.
func halves(t *testing.T, s *store.Store, e api.Edge, l int, lo, hi api.Edge) {
	t.Helper()
	if a, b, err := View(s, e, l); a != lo || b != hi || err != api.OK {
		t.Fatalf("View(%v, %d): %v, %v, %v, wanted %v, %v", e, l, a, b, err, lo, hi)
	}
}

// noView: View, where it must tell an error.
func noView(t *testing.T, s *store.Store, e api.Edge, l int, want api.Err) {
	t.Helper()
	if lo, hi, err := View(s, e, l); lo != nothing || hi != nothing || err != want {
		t.Fatalf("View(%v, %d): %v, %v, %v, wanted %v", e, l, lo, hi, err, want)
	}
}

// levels of n variables, that of the terminals too, and numbers that are none.
func levels(n int) []int {
	l := []int{-1, -2, n + 1, n + 2, 16, 17, 255, 256, 256 + n, 1 << 32, 1<<32 + n, -1 << 32, math.MaxInt, math.MaxInt - 1, math.MinInt, math.MinInt + 1, math.MinInt + n}
	for i := range n + 1 {
		l = append(l, i)
	}
	return l
}

// anyEdges: edges to nothing, to one, to each id up to the last one and some behind it, with tags and without.
func anyEdges(last uint32) []api.Edge {
	ids := []uint32{1 << 20, 1<<20 + 1, 1 << 31, math.MaxUint32 - 1, math.MaxUint32}
	for id := range last + 3 {
		ids = append(ids, id)
	}
	var l []api.Edge
	for _, id := range ids {
		for _, tag := range []uint8{0, 1, 2, 3, 16, 255} {
			l = append(l, api.Edge{At: id, Tag: tag})
		}
	}
	return l
}

// records of all nodes, by ids.
func records(s *store.Store) map[uint32]api.Record {
	all := map[uint32]api.Record{}
	for id := range s.Ids() {
		r, _ := s.Get(id)
		all[id] = r
	}
	return all
}

// sameNodes: has a store these nodes still, and no others?
func sameNodes(t *testing.T, s *store.Store, old map[uint32]api.Record) {
	t.Helper()
	now := records(s)
	if len(now) != len(old) || s.Len() != len(old) {
		t.Fatalf("%d nodes, were %d", s.Len(), len(old))
	}
	for id, r := range old {
		if now[id] != r {
			t.Fatalf("node %d is %v, was %v", id, now[id], r)
		}
	}
}

// noughts: so many.
func noughts(size int) string { return strings.Repeat("0", size) }

// meaning: what an edge means, as the Words tell it: a text of 0 and 1, one of these for each assignment of the levels from l on, the level l as its highest bit.
func meaning(s *store.Store, e api.Edge, l int) string {
	size := 1 << (s.Vars() - l)
	if e.At < 2 {
		return string('0'+byte(e.At)) + noughts(size-1)
	}
	r, _ := s.Get(e.At)
	below := int(r.Bot) + 1
	set := strings.Repeat(meaning(s, r.Lo, below)+meaning(s, r.Hi, below), 1<<(r.Bot-r.Top))
	return set + noughts(size-len(set))
}

// canLead: does an edge, as the Words of the chapters 10 and 11 tell it?
func canLead(s *store.Store, e api.Edge, l int) bool {
	if s == nil || l < 0 || l > s.Vars() || e.Tag != 0 {
		return false
	}
	if e.At == 0 || e.At == 1 {
		return true
	}
	r, ok := s.Get(e.At)
	return ok && r.Form == api.CZDD && int(r.Top) >= l
}

// right: is an edge, as P15.3 tells it?
func right(s *store.Store, e api.Edge, l int) bool {
	return canLead(s, e, l) && whole(s, e)
}

// whole: is no chain that is reached cut in two?
func whole(s *store.Store, e api.Edge) bool {
	r, ok := s.Get(e.At)
	if !ok {
		return true
	}
	if below, ok := s.Get(r.Lo.At); ok && r.Lo == r.Hi && below.Top == r.Bot+1 {
		return false
	}
	return whole(s, r.Lo) && whole(s, r.Hi)
}

// wrong: the error of a level, and of edges at another one; OK if none holds.
func wrong(s *store.Store, l, where int, edges ...api.Edge) api.Err {
	if s == nil {
		return api.Nil
	}
	if l < 0 || l >= s.Vars() {
		return api.Var
	}
	for _, e := range edges {
		if !canLead(s, e, where) {
			return api.Arg
		}
	}
	return api.OK
}

// recordOf halves that lead, the upper one not to nothing: of the node that Make tells, as P15.1 says.
func recordOf(s *store.Store, l int, lo, hi api.Edge) api.Record {
	if r, ok := s.Get(lo.At); ok && lo == hi && int(r.Top) == l+1 {
		return chain(l, int(r.Bot), r.Lo, r.Hi)
	}
	return chain(l, l, lo, hi)
}

// makes: Make, held against the Words, and what it leaves of the nodes.
func makes(t *testing.T, s *store.Store, l int, lo, hi api.Edge) {
	t.Helper()
	old := records(s)
	if want := wrong(s, l, l+1, lo, hi); want != api.OK {
		noMake(t, s, l, lo, hi, want)
		sameNodes(t, s, old)
		return
	}
	if hi == nothing {
		if e := make1(t, s, l, lo, hi); e != lo {
			t.Fatalf("Make(%d, %v, %v): %v", l, lo, hi, e)
		}
		sameNodes(t, s, old)
		return
	}
	want := recordOf(s, l, lo, hi)
	was, has := s.Has(want)
	if !has && len(old) == s.Room() {
		noMake(t, s, l, lo, hi, api.Full)
		sameNodes(t, s, old)
		return
	}
	e := make1(t, s, l, lo, hi)
	is(t, s, e, want)
	if has && e.At != was || meaning(s, e, l) != meaning(s, lo, l+1)+meaning(s, hi, l+1) {
		t.Fatalf("Make(%d, %v, %v): %v", l, lo, hi, e)
	}
	if right(s, lo, l+1) && right(s, hi, l+1) && !Right(s, e, l) {
		t.Fatalf("Make(%d, %v, %v): %v isn't right", l, lo, hi, e)
	}
	old[e.At] = want
	sameNodes(t, s, old)
}

// views: View and Right, held against the Words, what View leaves of the nodes, and Make of what it tells.
func views(t *testing.T, s *store.Store, e api.Edge, l int) {
	t.Helper()
	old := records(s)
	if want := right(s, e, l); Right(s, e, l) != want {
		t.Fatalf("Right(%v, %d) is %v", e, l, !want)
	}
	if want := wrong(s, l, l, e); want != api.OK {
		noView(t, s, e, l, want)
		sameNodes(t, s, old)
		return
	}
	lo, hi, err := View(s, e, l)
	wantLo, wantHi := e, nothing
	if r, ok := s.Get(e.At); ok && int(r.Top) == l {
		wantLo, wantHi = r.Lo, r.Hi
		if int(r.Bot) > l {
			rest := chain(l+1, int(r.Bot), r.Lo, r.Hi)
			if !has(old, rest) && len(old) == s.Room() {
				noView(t, s, e, l, api.Full)
				sameNodes(t, s, old)
				return
			}
			id, _ := s.Has(rest)
			wantLo, wantHi, old[id] = at(id), at(id), rest
		}
	}
	if lo != wantLo || hi != wantHi || err != api.OK {
		t.Fatalf("View(%v, %d): %v, %v, %v, wanted %v, %v", e, l, lo, hi, err, wantLo, wantHi)
	}
	sameNodes(t, s, old)
	if !canLead(s, lo, l+1) || !canLead(s, hi, l+1) || meaning(s, lo, l+1)+meaning(s, hi, l+1) != meaning(s, e, l) {
		t.Fatalf("View(%v, %d): %v, %v", e, l, lo, hi)
	}
	if right(s, e, l) {
		again, err := Make(s, l, lo, hi)
		if again != e || err != api.OK || !Right(s, lo, l+1) || !Right(s, hi, l+1) {
			t.Fatalf("Make(%d, %v, %v): %v, %v, wanted %v", l, lo, hi, again, err, e)
		}
	}
	sameNodes(t, s, old)
}

// has: is a record among them?
func has(all map[uint32]api.Record, want api.Record) bool {
	for _, r := range all {
		if r == want {
			return true
		}
	}
	return false
}

// orders in which the halves of a set may be made.
const (
	lowFirst = iota
	highFirst
	drawn
)

// build the diagram of a table from below; an error is Make's first one.
func build(s *store.Store, table string, l, way int) (api.Edge, api.Err) {
	if l == s.Vars() {
		return at(uint32(table[0] - '0')), api.OK
	}
	half := len(table) / 2
	var edges [2]api.Edge
	first := way
	if way == drawn {
		first = strings.Count(table, "1") % 2
	}
	for i := range 2 {
		which := i ^ first
		e, err := build(s, table[which*half:(which+1)*half], l+1, way)
		if err != api.OK {
			return api.Edge{}, err
		}
		edges[which] = e
	}
	return Make(s, l, edges[0], edges[1])
}

// built: likewise, where there must be room.
func built(t *testing.T, s *store.Store, table string, l, way int) api.Edge {
	t.Helper()
	e, err := build(s, table, l, way)
	if err != api.OK {
		t.Fatalf("build(%s, %d): %v", table, l, err)
	}
	return e
}

// byLevels: the diagram of a table, all edges of a level before those of the level above it.
func byLevels(t *testing.T, s *store.Store, table string) api.Edge {
	t.Helper()
	var row []api.Edge
	for _, bit := range table {
		row = append(row, at(uint32(bit-'0')))
	}
	for l := s.Vars() - 1; l >= 0; l-- {
		var above []api.Edge
		for i := 0; i < len(row); i += 2 {
			above = append(above, make1(t, s, l, row[i], row[i+1]))
		}
		row = above
	}
	return row[0]
}

// used: a table without the topmost levels that are 0.
func used(part string) string {
	for len(part) > 1 && part[len(part)/2:] == noughts(len(part)/2) {
		part = part[:len(part)/2]
	}
	return part
}

// chains: how many nodes a table's diagram has, and how many a ZDD of single levels.
func chains(table string) (count, single int) {
	seen, below := map[string]bool{}, map[string]bool{}
	var plain func(part string)
	plain = func(part string) {
		part = used(part)
		if len(part) == 1 || below[part] {
			return
		}
		below[part] = true
		plain(part[:len(part)/2])
		plain(part[len(part)/2:])
	}
	var walk func(part string)
	walk = func(part string) {
		part = used(part)
		if len(part) == 1 || seen[part] {
			return
		}
		seen[part] = true
		lo, hi, _ := ends(part)
		walk(lo)
		walk(hi)
	}
	walk(table)
	plain(table)
	return len(seen), len(below)
}

// table of a number's lowest bits.
func table(x uint64, size int) string {
	b := make([]byte, size)
	for i := range b {
		b[i] = '0' + byte(x>>i&1)
	}
	return string(b)
}

// ends of the chain that begins at a table's topmost level, which isn't 0: as far down as both halves are the same, and their topmost level isn't 0; and how many levels further down that is.
func ends(part string) (lo, hi string, further int) {
	lo, hi = part[:len(part)/2], part[len(part)/2:]
	for lo == hi && len(lo) > 1 && used(lo) == lo {
		lo, hi = lo[:len(lo)/2], lo[len(lo)/2:]
		further++
	}
	return lo, hi, further
}

// draw a table of so many levels: some even, some sparse, some dense, some made of few parts, some with chains, some with levels that are 0.
func draw(r *rand.Rand, l int) string {
	kind := r.Intn(7)
	if kind == 3 && l > 2 {
		parts := []string{draw(r, l-2), draw(r, l-2), noughts(1 << (l - 2))}
		var b strings.Builder
		for range 4 {
			b.WriteString(parts[r.Intn(3)])
		}
		return b.String()
	}
	if (kind == 4 || kind == 5) && l > 0 {
		length := 1 + r.Intn(l)
		return strings.Repeat(draw(r, l-length), 1<<length)
	}
	if kind == 6 && l > 0 {
		return draw(r, l-1) + noughts(1<<(l-1))
	}
	limit := []int{4, 1, 7, 4, 4, 4, 4}[kind]
	b := make([]byte, 1<<l)
	for i := range b {
		b[i] = '0'
		if r.Intn(8) < limit {
			b[i] = '1'
		}
	}
	return string(b)
}

// full: all sets of n variables, in a store with room for just their nodes.
func full(t *testing.T, n int) *store.Store {
	t.Helper()
	size := 1 << n
	s := made(t, n, 1<<size-2)
	for x := range uint64(1) << size {
		built(t, s, table(x, size), 0, lowFirst)
	}
	if s.Len() != s.Room() {
		t.Fatalf("%d nodes of %d", s.Len(), s.Room())
	}
	return s
}

// everything: all nodes that may be of n variables, right or not, in a store with room for just these.
func everything(t *testing.T, n int) *store.Store {
	t.Helper()
	s := made(t, n, []int{0, 2, 16, 336}[n])
	for bot := n - 1; bot >= 0; bot-- {
		var below []api.Edge
		for id := range uint32(s.Len() + 2) {
			if canLead(s, at(id), bot+1) {
				below = append(below, at(id))
			}
		}
		for top := range bot + 1 {
			for _, lo := range below {
				for _, hi := range below {
					if hi != nothing {
						found(t, s, chain(top, bot, lo, hi))
					}
				}
			}
		}
	}
	if s.Len() != s.Room() {
		t.Fatalf("%d nodes of %d", s.Len(), s.Room())
	}
	return s
}

// mixed: a store with nodes of all forms, those of CZDDs among them told, and the id of the last one.
func mixed(t *testing.T) (s *store.Store, low, top api.Edge, last uint32) {
	t.Helper()
	s = made(t, 3, 20)
	found(t, s, api.Record{Form: api.BDD, Top: 2, Bot: 2, Lo: nothing, Hi: one})
	found(t, s, api.Record{Form: api.ZDD, Top: 2, Bot: 2, Lo: nothing, Hi: one})
	found(t, s, api.Record{Form: api.CBDD, Top: 1, Bot: 2, Lo: nothing, Hi: one})
	low = found(t, s, chain(1, 2, nothing, one))
	top = found(t, s, chain(0, 0, nothing, low))
	end := api.Edge{At: 1, Tag: 3}
	last = found(t, s, api.Record{Form: api.TBDD, Top: 2, Bot: 2, Lo: nothing, Hi: end}).At
	return s, low, top, last
}

func TestExample(t *testing.T) { // P15.1 and P15.2: the chapter's example, in a store of just these levels, and in deeper ones
	for n := 2; n <= api.MaxVars; n++ {
		s := made(t, n, 2)
		x := make1(t, s, 1, one, one)
		is(t, s, x, chain(1, 1, one, one))
		y := make1(t, s, 0, x, x)
		is(t, s, y, chain(0, 1, one, one))
		if x != at(2) || y != at(3) || s.Len() != 2 {
			t.Errorf("n %d: %v, %v, %d nodes", n, x, y, s.Len())
		}
		halves(t, s, y, 0, x, x)
		halves(t, s, x, 0, x, nothing)
		halves(t, s, x, 1, one, one)
		noView(t, s, y, 1, api.Arg)
	}
}

func TestMakeAndView(t *testing.T) { // P15.1 and P15.2: by hand
	s := made(t, 4, 20)
	x := make1(t, s, 3, nothing, one)
	y := make1(t, s, 2, one, x)
	z := make1(t, s, 1, y, y)
	w := make1(t, s, 0, z, z)
	is(t, s, x, chain(3, 3, nothing, one))
	is(t, s, y, chain(2, 2, one, x))
	is(t, s, z, chain(1, 2, one, x))
	is(t, s, w, chain(0, 2, one, x))
	if s.Len() != 4 {
		t.Errorf("%d nodes", s.Len())
	}
	halves(t, s, w, 0, z, z)
	halves(t, s, z, 0, z, nothing)
	halves(t, s, z, 1, y, y)
	halves(t, s, y, 0, y, nothing)
	halves(t, s, y, 1, y, nothing)
	halves(t, s, y, 2, one, x)
	for l := range 3 {
		halves(t, s, x, l, x, nothing)
	}
	halves(t, s, x, 3, nothing, one)
	if got := meaning(s, w, 0); got != strings.Repeat("1001", 4) {
		t.Errorf("w means %s", got)
	}
	if got := meaning(s, z, 0); got != "10011001"+noughts(8) {
		t.Errorf("z means %s", got)
	}
	if s.Len() != 4 {
		t.Errorf("%d nodes behind View", s.Len())
	}
}

func TestMakeNoChain(t *testing.T) { // P15.1: a node of one level where the halves aren't the same, or are one's, or those of a node further below
	s := made(t, 5, 20)
	x := make1(t, s, 4, nothing, one)
	y := make1(t, s, 3, x, x)
	is(t, s, y, chain(3, 4, nothing, one))
	for _, c := range []struct {
		l      int
		lo, hi api.Edge
	}{
		{2, y, x}, // not the same
		{2, x, y},
		{2, nothing, y},
		{2, one, y},
		{2, y, one},
		{3, nothing, x},
		{3, x, one},
		{4, one, one}, // one
		{3, one, one},
		{0, one, one},
		{2, x, x}, // a Top further below
		{0, x, x},
		{1, y, y},
		{0, y, y},
	} {
		is(t, s, make1(t, s, c.l, c.lo, c.hi), chain(c.l, c.l, c.lo, c.hi))
	}
	is(t, s, make1(t, s, 2, y, y), chain(2, 4, nothing, one))
}

func TestMakeOfCutChain(t *testing.T) { // P15.1 and P15.3: a node's record goes on as it is, even where its chain is cut in two
	s := made(t, 4, 20)
	low := found(t, s, chain(3, 3, nothing, one))
	cut := found(t, s, chain(1, 2, low, low))
	e := make1(t, s, 0, cut, cut)
	is(t, s, e, chain(0, 2, low, low))
	if Right(s, e, 0) || Right(s, cut, 1) || !Right(s, low, 3) {
		t.Error("a cut chain isn't right, its end is")
	}
	rest := make1(t, s, 2, low, low)
	is(t, s, rest, chain(2, 3, nothing, one))
	lower := found(t, s, chain(2, 2, low, low))
	halves(t, s, cut, 1, lower, lower)
	halves(t, s, lower, 2, low, low)
}

func TestMakeHiNothing(t *testing.T) { // P15.1: hi nothing is lo, and makes no node, in a store without room, too
	for n := 1; n <= api.MaxVars; n++ {
		s := made(t, n, 0)
		for l := range n {
			for _, lo := range []api.Edge{nothing, one} {
				if got := make1(t, s, l, lo, nothing); got != lo || s.Len() != 0 {
					t.Errorf("n %d: Make(%d, %v, nothing): %v", n, l, lo, got)
				}
			}
		}
	}
	s := full(t, 3)
	old := records(s)
	for id, r := range old {
		// From just above the node up: there it stands at l + 1, or below.
		for l := range int(r.Top) {
			if got := make1(t, s, l, at(id), nothing); got != at(id) {
				t.Errorf("Make(%d, %d, nothing): %v", l, id, got)
			}
		}
	}
	sameNodes(t, s, old)
}

func TestMakeSame(t *testing.T) { // P15.1: halves that are the same, and not nothing, are a node's
	for n := 1; n <= api.MaxVars; n++ {
		for l := range n {
			for _, lo := range []api.Edge{one, nothing} {
				noMake(t, made(t, n, 0), l, lo, one, api.Full)
			}
			s := made(t, n, 1)
			is(t, s, make1(t, s, l, one, one), chain(l, l, one, one))
			noMake(t, s, l, nothing, one, api.Full)
		}
	}
	s := full(t, 3)
	old := records(s)
	for id, r := range old {
		for l := range int(r.Top) {
			want := chain(l, l, at(id), at(id))
			if l == int(r.Top)-1 {
				want = chain(l, int(r.Bot), r.Lo, r.Hi)
			}
			is(t, s, make1(t, s, l, at(id), at(id)), want)
		}
	}
	sameNodes(t, s, old)
}

func TestEndsViewed(t *testing.T) { // P15.2 and P15.3: nothing and one, at each level
	for n := range api.MaxVars + 1 {
		s := made(t, n, 0)
		for l := range n {
			halves(t, s, one, l, one, nothing)
			halves(t, s, nothing, l, nothing, nothing)
		}
		for l := range n + 1 {
			if !Right(s, one, l) || !Right(s, nothing, l) {
				t.Errorf("n %d: nothing and one aren't right at %d", n, l)
			}
		}
		for _, l := range []int{n, n + 1, -1, math.MinInt, math.MaxInt} {
			noView(t, s, one, l, api.Var)
			noView(t, s, nothing, l, api.Var)
			noMake(t, s, l, one, one, api.Var)
			noMake(t, s, l, one, nothing, api.Var)
			if l != n && (Right(s, one, l) || Right(s, nothing, l)) {
				t.Errorf("n %d: right at %d", n, l)
			}
		}
	}
}

func TestLongChain(t *testing.T) { // P15.1 to P15.5: a chain over all levels, from below, viewed again, and swept
	for n := 1; n <= api.MaxVars; n++ {
		for _, end := range []api.Edge{nothing, one} {
			s := made(t, n, n)
			e := make1(t, s, n-1, end, one)
			for l := n - 1; l >= 0; l-- {
				if l < n-1 {
					e = make1(t, s, l, e, e)
				}
				is(t, s, e, chain(l, n-1, end, one))
				if s.Len() != n-l || !Right(s, e, l) || Right(s, e, l+1) {
					t.Fatalf("n %d, level %d: %v of %d nodes", n, l, e, s.Len())
				}
			}
			if gone := s.Sweep([]api.Edge{e}); gone != n-1 || s.Len() != 1 {
				t.Fatalf("n %d: %d nodes went", n, gone)
			}
			for l := range n - 1 {
				lo, hi, err := View(s, e, l)
				if err != api.OK || lo != hi || !Right(s, lo, l+1) {
					t.Fatalf("n %d: View(%v, %d): %v, %v, %v", n, e, l, lo, hi, err)
				}
				is(t, s, lo, chain(l+1, n-1, end, one))
				if again := make1(t, s, l, lo, hi); again != e {
					t.Fatalf("n %d: Make tells %v, wanted %v", n, again, e)
				}
				e = lo
			}
			halves(t, s, e, n-1, end, one)
			if s.Len() != n {
				t.Errorf("n %d: %d nodes", n, s.Len())
			}
		}
	}
}

func TestFullView(t *testing.T) { // P15.2: the rest of a chain in a full store: Full, if it isn't there
	for n := 2; n <= api.MaxVars; n++ {
		s := made(t, n, 1)
		e := found(t, s, chain(0, n-1, nothing, one))
		old := records(s)
		noView(t, s, e, 0, api.Full)
		sameNodes(t, s, old)
		s = made(t, n, 2)
		e = found(t, s, chain(0, n-1, one, one))
		rest := found(t, s, chain(1, n-1, one, one))
		old = records(s)
		for range 2 {
			halves(t, s, e, 0, rest, rest)
			halves(t, s, rest, 0, rest, nothing)
			if got := make1(t, s, 0, rest, rest); got != e {
				t.Errorf("n %d: %v, wanted %v", n, got, e)
			}
		}
		if n > 2 {
			noView(t, s, rest, 1, api.Full)
		}
		noView(t, s, e, 1, api.Arg)
		sameNodes(t, s, old)
	}
}

func TestFullMake(t *testing.T) { // P15.1: a node that is there is told still, a new one tells Full
	s := made(t, 3, 3)
	low := make1(t, s, 2, nothing, one)
	mid := make1(t, s, 1, low, low)
	top := make1(t, s, 0, mid, low)
	old := records(s)
	for range 3 {
		for _, c := range []struct {
			l            int
			lo, hi, want api.Edge
		}{{2, nothing, one, low}, {1, low, low, mid}, {0, mid, low, top}, {1, low, nothing, low}, {0, mid, nothing, mid}, {0, one, nothing, one}, {0, nothing, nothing, nothing}} {
			if got := make1(t, s, c.l, c.lo, c.hi); got != c.want {
				t.Errorf("Make(%d, %v, %v): %v, wanted %v", c.l, c.lo, c.hi, got, c.want)
			}
		}
		for _, c := range []struct {
			l      int
			lo, hi api.Edge
		}{{2, one, one}, {1, nothing, one}, {1, nothing, low}, {0, mid, mid}, {0, low, low}, {0, low, mid}, {0, mid, one}} {
			noMake(t, s, c.l, c.lo, c.hi, api.Full)
		}
		// An edge that doesn't lead is looked for before room is.
		noMake(t, s, 0, top, one, api.Arg)
		noMake(t, s, 1, mid, one, api.Arg)
		noMake(t, s, 1, mid, mid, api.Arg)
		sameNodes(t, s, old)
	}
	s.Sweep([]api.Edge{mid})
	if got := make1(t, s, 0, mid, mid); got != top && got != low {
		t.Errorf("behind Sweep: %v, wanted an id that came free", got)
	}
}

func TestEachPair(t *testing.T) { // P15.1 and P15.4: all halves of small stores, at each level, by the Words
	for n := 1; n <= 3; n++ {
		s := full(t, n)
		old := records(s)
		last := uint32(s.Len() + 1)
		for l := range n {
			for lo := range last + 1 {
				for hi := range last + 1 {
					pair(t, s, l, at(lo), at(hi))
				}
			}
		}
		sameNodes(t, s, old)
	}
}

// pair: these halves, whose node is there in a full store.
func pair(t *testing.T, s *store.Store, l int, lo, hi api.Edge) {
	t.Helper()
	if want := wrong(s, l, l+1, lo, hi); want != api.OK {
		noMake(t, s, l, lo, hi, want)
		return
	}
	e := make1(t, s, l, lo, hi)
	if want := meaning(s, lo, l+1) + meaning(s, hi, l+1); !Right(s, e, l) || meaning(s, e, l) != want {
		t.Fatalf("Make(%d, %v, %v): %v, wanted %s", l, lo, hi, e, want)
	}
	halves(t, s, e, l, lo, hi)
}

func TestEachPairOfEverything(t *testing.T) { // P15.1: all halves of all nodes that may be, right or not
	for n := 1; n <= 2; n++ {
		s := everything(t, n)
		last := uint32(s.Len() + 1)
		for l := range n {
			for lo := range last + 1 {
				for hi := range last + 1 {
					makes(t, s, l, at(lo), at(hi))
				}
			}
		}
	}
	s := everything(t, 3)
	old := records(s)
	for l := range 3 {
		for lo := range uint32(338) {
			for hi := range uint32(338) {
				if hi == 0 || !canLead(s, at(lo), l+1) || !canLead(s, at(hi), l+1) {
					continue
				}
				e := make1(t, s, l, at(lo), at(hi))
				if old[e.At] != recordOf(s, l, at(lo), at(hi)) {
					t.Fatalf("Make(%d, %d, %d): %v", l, lo, hi, e)
				}
			}
		}
	}
	sameNodes(t, s, old)
}

func TestEachEdge(t *testing.T) { // P15.2 to P15.4: all edges at all levels, in stores with no room left
	for n := range 4 {
		for _, s := range []*store.Store{full(t, n), everything(t, n)} {
			for _, e := range anyEdges(uint32(s.Len() + 1)) {
				for _, l := range levels(n) {
					if s.Len() < 100 || e.Tag == 0 && l >= 0 && l <= n {
						views(t, s, e, l)
						continue
					}
					want := wrong(s, l, l, e)
					if want != api.OK || l == n {
						noView(t, s, e, l, want)
					}
					if want := right(s, e, l); Right(s, e, l) != want {
						t.Fatalf("Right(%v, %d) is %v", e, l, !want)
					}
				}
			}
		}
	}
}

func TestOnlyOneIsRight(t *testing.T) { // P15.3 to P15.5: of all nodes that may be just one edge a set is right, and it has the fewest nodes
	for n := range 4 {
		s := everything(t, n)
		for l := range n + 1 {
			of := map[string]api.Edge{}
			fewest := map[string]int{}
			for id := range uint32(s.Len() + 2) {
				if !canLead(s, at(id), l) {
					continue
				}
				set, size := meaning(s, at(id), l), len(s.Reach([]api.Edge{at(id)}))
				if least, ok := fewest[set]; !ok || size < least {
					fewest[set] = size
				}
				if !Right(s, at(id), l) {
					continue
				}
				if other, ok := of[set]; ok {
					t.Fatalf("n %d, level %d: %v and %d mean %s", n, l, other, id, set)
				}
				of[set] = at(id)
			}
			if sets := 1 << (1 << (n - l)); len(of) != sets {
				t.Fatalf("n %d, level %d: edges of %d sets, wanted %d", n, l, len(of), sets)
			}
			for set, e := range of {
				size := len(s.Reach([]api.Edge{e}))
				count, _ := chains(set)
				if size != fewest[set] || size != count || built(t, s, set, l, lowFirst) != e {
					t.Fatalf("n %d, level %d: %s has %d nodes, wanted %d", n, l, set, size, count)
				}
			}
		}
	}
}

func TestRight(t *testing.T) { // P15.3: by hand
	s := made(t, 4, 20)
	low := found(t, s, chain(3, 3, nothing, one))
	cut := found(t, s, chain(2, 2, low, low))
	long := found(t, s, chain(2, 3, nothing, one))
	other := found(t, s, chain(2, 2, one, low))
	for _, c := range []struct {
		r    api.Record
		want bool
	}{
		{chain(1, 1, cut, one), false},     // reached by Lo
		{chain(1, 1, nothing, cut), false}, // reached by Hi
		{chain(0, 1, one, cut), false},     // reached from a chain
		{chain(1, 1, long, long), false},   // the same, at the next level
		{chain(0, 1, long, long), false},   // behind a chain, too
		{chain(0, 0, long, long), true},    // the same, a Top too far below
		{chain(0, 1, low, low), true},      // likewise
		{chain(0, 2, low, low), false},     // not too far any more
		{chain(1, 1, other, other), false}, // a node of one level
		{chain(0, 0, other, other), true},  // too far below
		{chain(1, 1, long, other), true},   // not the same
		{chain(1, 1, other, long), true},   // likewise
		{chain(1, 1, long, one), true},     // beside one
		{chain(1, 1, one, long), true},     // likewise
		{chain(1, 1, nothing, long), true}, // beside nothing
		{chain(3, 3, one, one), true},      // one, twice
		{chain(0, 2, one, one), true},      // behind a chain
		{chain(0, 3, one, one), true},      // over all levels
		{chain(0, 3, nothing, one), true},  // of unlike ends
		{chain(0, 1, other, cut), false},   // far below, by Hi
		{chain(0, 0, cut, other), false},   // far below, by Lo
		{chain(0, 0, cut, cut), false},     // far below, by both
	} {
		e := found(t, s, c.r)
		for l := range 5 {
			if want := c.want && l <= int(c.r.Top); Right(s, e, l) != want {
				t.Errorf("Right of %s at %d is %v", node.Text(c.r), l, !want)
			}
		}
		s.Sweep([]api.Edge{cut, long, other})
	}
}

func TestRightFarBelow(t *testing.T) { // P15.3: the one cut chain is at the bottom of sixteen levels, with two nodes at each
	for _, isCut := range []bool{true, false} {
		s := made(t, 16, 100)
		low := found(t, s, chain(15, 15, nothing, one))
		a, b := found(t, s, chain(14, 14, one, low)), found(t, s, chain(14, 14, low, one))
		if isCut {
			b = found(t, s, chain(14, 14, low, low))
		}
		for l := 13; l >= 0; l-- {
			a, b = found(t, s, chain(l, l, a, b)), found(t, s, chain(l, l, b, a))
		}
		if Right(s, a, 0) == isCut || Right(s, b, 0) == isCut || !Right(s, low, 0) {
			t.Errorf("Right with a cut chain: %v", isCut)
		}
	}
}

func TestWrongMake(t *testing.T) { // P15.1: the first error that holds, and no node beside it
	s, low, top, last := mixed(t)
	old := records(s)
	for _, l := range levels(3) {
		for _, lo := range anyEdges(last) {
			for _, hi := range []api.Edge{nothing, one, low, top, lo, {At: 1, Tag: 1}, at(2), at(last), at(last + 1)} {
				for _, pair := range [][2]api.Edge{{lo, hi}, {hi, lo}} {
					noMake(t, nil, l, pair[0], pair[1], api.Nil)
					if want := wrong(s, l, l+1, pair[0], pair[1]); want != api.OK {
						noMake(t, s, l, pair[0], pair[1], want)
					}
				}
			}
		}
	}
	sameNodes(t, s, old)
}

func TestWrongMakeByHand(t *testing.T) { // P15.1: one by one
	s, low, top, last := mixed(t)
	tagged, otherForm, noNode := api.Edge{At: low.At, Tag: 1}, at(2), at(last+9)
	for _, c := range []struct {
		s      *store.Store
		l      int
		lo, hi api.Edge
		want   api.Err
	}{
		{nil, -1, tagged, noNode, api.Nil},
		{nil, 0, one, one, api.Nil},
		{nil, 0, one, nothing, api.Nil},
		{s, -1, tagged, noNode, api.Var},
		{s, 3, tagged, tagged, api.Var},
		{s, 3, one, one, api.Var},
		{s, 3, one, nothing, api.Var},
		{s, math.MaxInt, nothing, one, api.Var},
		{s, math.MinInt, one, nothing, api.Var},
		{s, 256, nothing, one, api.Var},
		{s, 0, tagged, one, api.Arg},
		{s, 0, one, tagged, api.Arg},
		{s, 0, tagged, tagged, api.Arg},
		{s, 0, tagged, nothing, api.Arg},
		{s, 0, api.Edge{Tag: 1}, one, api.Arg},
		{s, 0, one, api.Edge{Tag: 1}, api.Arg},
		{s, 0, api.Edge{Tag: 1}, api.Edge{Tag: 1}, api.Arg},
		{s, 0, one, api.Edge{At: 1, Tag: 3}, api.Arg},
		{s, 0, api.Edge{At: 1, Tag: 3}, api.Edge{At: 1, Tag: 3}, api.Arg},
		{s, 0, otherForm, one, api.Arg},
		{s, 0, one, otherForm, api.Arg},
		{s, 0, otherForm, otherForm, api.Arg},
		{s, 0, otherForm, nothing, api.Arg},
		{s, 0, at(4), one, api.Arg}, // of a CBDD, whose record is of the same numbers
		{s, 0, at(4), at(4), api.Arg},
		{s, 0, noNode, one, api.Arg},
		{s, 0, one, noNode, api.Arg},
		{s, 0, noNode, noNode, api.Arg},
		{s, 0, noNode, nothing, api.Arg},
		{s, 1, low, one, api.Arg},
		{s, 1, one, low, api.Arg},
		{s, 1, low, low, api.Arg},
		{s, 1, low, nothing, api.Arg},
		{s, 2, low, low, api.Arg},
		{s, 0, top, one, api.Arg},
		{s, 0, one, top, api.Arg},
		{s, 0, top, top, api.Arg},
		{s, 0, top, nothing, api.Arg},
	} {
		noMake(t, c.s, c.l, c.lo, c.hi, c.want)
	}
	if got := make1(t, s, 0, low, nothing); got != low {
		t.Errorf("Make(0, low, nothing): %v", got)
	}
	if got := make1(t, s, 0, low, low); got != at(last+1) {
		t.Errorf("Make(0, low, low): %v", got)
	}
}

func TestWrongViewByHand(t *testing.T) { // P15.2: one by one
	s, low, top, last := mixed(t)
	tagged, otherForm, noNode := api.Edge{At: low.At, Tag: 1}, at(2), at(last+9)
	for _, c := range []struct {
		s    *store.Store
		e    api.Edge
		l    int
		want api.Err
	}{
		{nil, noNode, -1, api.Nil},
		{nil, one, 0, api.Nil},
		{s, noNode, -1, api.Var},
		{s, tagged, 3, api.Var},
		{s, one, 3, api.Var},
		{s, one, math.MaxInt, api.Var},
		{s, one, math.MinInt, api.Var},
		{s, low, 256, api.Var},
		{s, low, 257, api.Var},
		{s, tagged, 0, api.Arg},
		{s, tagged, 1, api.Arg},
		{s, otherForm, 0, api.Arg},
		{s, otherForm, 2, api.Arg},
		{s, at(4), 1, api.Arg},
		{s, noNode, 0, api.Arg},
		{s, api.Edge{Tag: 1}, 0, api.Arg},
		{s, api.Edge{At: 1, Tag: 3}, 0, api.Arg},
		{s, low, 2, api.Arg}, // within its chain
		{s, top, 1, api.Arg},
		{s, top, 2, api.Arg},
	} {
		noView(t, c.s, c.e, c.l, c.want)
	}
	old := records(s)
	halves(t, s, top, 0, nothing, low)
	halves(t, s, low, 0, low, nothing)
	sameNodes(t, s, old)
	halves(t, s, low, 1, at(last+1), at(last+1))
	is(t, s, at(last+1), chain(2, 2, nothing, one))
}

func TestOtherForms(t *testing.T) { // P15.1 to P15.3: beside nodes of other forms, and behind them
	s, low, top, last := mixed(t)
	for id := range last + 2 {
		want := id < 2 || id == low.At || id == top.At
		if Right(s, at(id), 0) != want {
			t.Errorf("Right(%d, 0) is %v", id, !want)
		}
	}
	for _, e := range anyEdges(last) {
		for _, l := range levels(3) {
			views(t, s, e, l)
		}
	}
	// View made the rest of low's chain, and no other node.
	if s.Len() != 7 {
		t.Errorf("%d nodes", s.Len())
	}
	x := make1(t, s, 2, nothing, one)
	is(t, s, x, chain(2, 2, nothing, one))
	if e := make1(t, s, 1, x, x); e != low {
		t.Errorf("Make tells %v of a set whose edge is %v", e, low)
	}
}

func TestNoVariables(t *testing.T) { // P15.1 to P15.3: of a store for 0 variables, and of one that New didn't make
	for _, s := range []*store.Store{made(t, 0, 5), {}} {
		for _, e := range anyEdges(3) {
			for _, l := range levels(0) {
				noMake(t, s, l, e, e, api.Var)
				noMake(t, s, l, one, e, api.Var)
				views(t, s, e, l)
			}
		}
		if !Right(s, one, 0) || !Right(s, nothing, 0) || Right(s, one, 1) || s.Len() != 0 {
			t.Error("nothing and one are right at the level 0 alone")
		}
	}
}

func TestNil(t *testing.T) { // P15.1 to P15.3: of a nil store
	for _, e := range anyEdges(3) {
		for _, l := range levels(0) {
			noMake(t, nil, l, e, e, api.Nil)
			noMake(t, nil, l, e, one, api.Nil)
			noView(t, nil, e, l, api.Nil)
			if Right(nil, e, l) {
				t.Fatalf("Right(nil, %v, %d)", e, l)
			}
		}
	}
}

func TestSwept(t *testing.T) { // P15.1 to P15.3: an edge whose node went leads nowhere
	s := made(t, 3, 5)
	low := make1(t, s, 2, nothing, one)
	if gone := s.Sweep(nil); gone != 1 {
		t.Fatalf("%d went", gone)
	}
	nowhere(t, s, low)
	if e := found(t, s, api.Record{Form: api.BDD, Top: 2, Bot: 2, Lo: nothing, Hi: one}); e != low {
		t.Fatalf("%v, wanted the id that came free", e)
	}
	nowhere(t, s, low)
}

// nowhere: an edge that leads at no level.
func nowhere(t *testing.T, s *store.Store, e api.Edge) {
	t.Helper()
	for l := range s.Vars() {
		if Right(s, e, l) {
			t.Errorf("Right(%v, %d)", e, l)
		}
		noMake(t, s, l, e, e, api.Arg)
		noMake(t, s, l, one, e, api.Arg)
		noMake(t, s, l, e, one, api.Arg)
		noMake(t, s, l, e, nothing, api.Arg)
		noView(t, s, e, l, api.Arg)
	}
}

func TestDownToTheEnd(t *testing.T) { // P15.1, P15.2 and P15.4: each edge viewed level by level, down to nothing and one
	r := rand.New(rand.NewSource(15))
	for n := range 9 {
		s := made(t, n, api.MaxRoom)
		for range 6 {
			want := draw(r, n)
			e := built(t, s, want, 0, lowFirst)
			old := records(s)
			if got := viewed(t, s, e, 0); got != want || meaning(s, e, 0) != want {
				t.Fatalf("n %d: the edge of %s means %s", n, want, got)
			}
			// Made from below, the rest of each chain is there.
			sameNodes(t, s, old)
			s.Sweep([]api.Edge{e})
			if got := viewed(t, s, e, 0); got != want || !Right(s, e, 0) {
				t.Fatalf("n %d: behind Sweep the edge of %s means %s", n, want, got)
			}
		}
	}
}

// viewed: the table that View tells, from l down; Make of its halves tells the edge again.
func viewed(t *testing.T, s *store.Store, e api.Edge, l int) string {
	t.Helper()
	if !Right(s, e, l) {
		t.Fatalf("%v isn't right at %d", e, l)
	}
	if l == s.Vars() {
		if e != nothing && e != one {
			t.Fatalf("%v at the end", e)
		}
		return string('0' + byte(e.At))
	}
	lo, hi, err := View(s, e, l)
	if err != api.OK {
		t.Fatalf("View(%v, %d): %v", e, l, err)
	}
	if again := make1(t, s, l, lo, hi); again != e {
		t.Fatalf("Make(%d, %v, %v): %v, wanted %v", l, lo, hi, again, e)
	}
	return viewed(t, s, lo, l+1) + viewed(t, s, hi, l+1)
}

func TestDrawnTwice(t *testing.T) { // P15.4: sets drawn, made again in other orders, in one store
	r := rand.New(rand.NewSource(154))
	for n := range 9 {
		s := made(t, n, api.MaxRoom)
		of := map[string]api.Edge{}
		sets := map[api.Edge]string{}
		for range 40 {
			l := r.Intn(n + 1)
			want := draw(r, n-l)
			e := built(t, s, want, l, r.Intn(3))
			if l == 0 {
				if again := byLevels(t, s, want); again != e {
					t.Fatalf("%s is %v, then %v", want, e, again)
				}
			}
			for way := range 3 {
				if again := built(t, s, want, l, way); again != e {
					t.Fatalf("%s is %v, then %v", want, e, again)
				}
			}
			if !Right(s, e, l) || meaning(s, e, l) != want {
				t.Fatalf("%s at %d: %v", want, l, e)
			}
			// At the level 0 what is above l is 0.
			whole := want + noughts(1<<n-len(want))
			if old, ok := of[whole]; ok && old != e {
				t.Fatalf("%s is %v, and %v", whole, old, e)
			}
			if old, ok := sets[e]; ok && old != whole {
				t.Fatalf("%v means %s, and %s", e, old, whole)
			}
			of[whole], sets[e] = e, whole
		}
	}
}

func TestSizes(t *testing.T) { // P15.5: behind a Sweep as many nodes as there are chains, in each order of making, and no more than without chains
	r := rand.New(rand.NewSource(155))
	fewer := 0
	for n := range 11 {
		for range 15 {
			set := draw(r, n)
			count, single := chains(set)
			if count > single {
				t.Fatalf("%s: %d chains, %d nodes", set, count, single)
			}
			if count < single {
				fewer++
			}
			for way := range 3 {
				s := made(t, n, api.MaxRoom)
				e := built(t, s, set, 0, way)
				s.Sweep([]api.Edge{e})
				if s.Len() != count || !Right(s, e, 0) || meaning(s, e, 0) != set {
					t.Fatalf("%s: %d nodes, wanted %d", set, s.Len(), count)
				}
			}
			s := made(t, n, count)
			if e := copied(t, s, set, 0); !Right(s, e, 0) || meaning(s, e, 0) != set || s.Len() != count {
				t.Fatalf("%s: %v, %d nodes, wanted %d", set, e, s.Len(), count)
			}
		}
	}
	if fewer == 0 {
		t.Error("no set was drawn that has chains")
	}
}

// copied: a table's diagram without Make, by the records of whole chains.
func copied(t *testing.T, s *store.Store, part string, l int) api.Edge {
	t.Helper()
	top := l + len2(part) - len2(used(part))
	part = used(part)
	if len(part) == 1 {
		return at(uint32(part[0] - '0'))
	}
	lo, hi, further := ends(part)
	bot := top + further
	return found(t, s, chain(top, bot, copied(t, s, lo, bot+1), copied(t, s, hi, bot+1)))
}

// len2: how many levels a table has.
func len2(part string) int {
	l := 0
	for 1<<l < len(part) {
		l++
	}
	return l
}

func TestCopiedIsMade(t *testing.T) { // P15.4: what was found by records of whole chains is what Make tells
	r := rand.New(rand.NewSource(1544))
	for n := range 9 {
		s := made(t, n, api.MaxRoom)
		for range 20 {
			set := draw(r, n)
			e := copied(t, s, set, 0)
			if got := built(t, s, set, 0, r.Intn(3)); got != e || !Right(s, e, 0) {
				t.Fatalf("%s: %v, wanted %v", set, got, e)
			}
		}
	}
}

func TestFullStoreAgain(t *testing.T) { // P15.1, P15.2 and P15.4: in a full store a diagram that was made from below is made and viewed again
	r := rand.New(rand.NewSource(1543))
	for n := range 9 {
		for range 10 {
			set := draw(r, n)
			roomy := made(t, n, api.MaxRoom)
			built(t, roomy, set, 0, lowFirst)
			count := roomy.Len()
			for way := range 3 {
				s := made(t, n, count)
				e := built(t, s, set, 0, way)
				old := records(s)
				if again := built(t, s, set, 0, (way+1)%3); again != e || viewed(t, s, e, 0) != set {
					t.Fatalf("%s in a full store: %v, was %v", set, again, e)
				}
				sameNodes(t, s, old)
				if count == 0 {
					continue
				}
				s = made(t, n, count-1)
				if e, err := build(s, set, 0, way); e != nothing || err != api.Full || s.Len() != count-1 {
					t.Fatalf("%s with room for one less: %v, %v, %d nodes", set, e, err, s.Len())
				}
			}
		}
	}
}

func TestDrawnCalls(t *testing.T) { // P15.1 to P15.4, R2: a long run of drawn calls, in stores of little room, with chains that are cut
	r := rand.New(rand.NewSource(1504))
	for n := range 7 {
		for _, room := range []int{0, 1, 3, 10, 40} {
			s := made(t, n, room)
			for range 1500 {
				drawnCall(t, r, s)
			}
		}
	}
}

// drawnCall: one call of View and one of Make, held against the Words; now and then a node is found by its record, or what isn't reached goes.
func drawnCall(t *testing.T, r *rand.Rand, s *store.Store) {
	t.Helper()
	pick := func() api.Edge {
		e := at(uint32(r.Intn(s.Room() + 3)))
		if r.Intn(20) == 0 {
			e.Tag = uint8(r.Intn(4))
		}
		return e
	}
	l, lo, hi := r.Intn(s.Vars()+3)-1, pick(), pick()
	switch r.Intn(60) {
	case 0:
		s.Sweep([]api.Edge{lo, hi})
	case 1, 2, 3, 4:
		// Most of these can't be, and are refused.
		s.Find(chain(r.Intn(s.Vars()+1), r.Intn(s.Vars()+1), lo, hi))
	}
	views(t, s, pick(), l)
	makes(t, s, l, lo, hi)
	// Halves that make a chain, if there are such.
	if below, ok := s.Get(lo.At); ok {
		makes(t, s, int(below.Top)-1, lo, lo)
	}
}
