package canon

import (
	"math"
	"math/rand"
	"strconv"
	"strings"
	"testing"

	"ramage/api"
	"ramage/bdd"
	"ramage/cbdd"
	"ramage/czdd"
	"ramage/node"
	"ramage/store"
	"ramage/tbdd"
	"ramage/zdd"
)

var nothing = api.Edge{}

var forms = []api.Form{api.BDD, api.ZDD, api.CBDD, api.CZDD, api.TBDD}

// own: the functions of a form's own package.
type own struct {
	make  func(*store.Store, int, api.Edge, api.Edge) (api.Edge, api.Err)
	view  func(*store.Store, api.Edge, int) (api.Edge, api.Edge, api.Err)
	right func(*store.Store, api.Edge, int) bool
}

// ownOf a form.
func ownOf(f api.Form) own {
	return map[api.Form]own{
		api.BDD:  {bdd.Make, bdd.View, bdd.Right},
		api.ZDD:  {zdd.Make, zdd.View, zdd.Right},
		api.CBDD: {cbdd.Make, cbdd.View, cbdd.Right},
		api.CZDD: {czdd.Make, czdd.View, czdd.Right},
		api.TBDD: {tbdd.Make, tbdd.View, tbdd.Right},
	}[f]
}

// at: an edge with a tag.
func at(tag int, id uint32) api.Edge { return api.Edge{Tag: uint8(tag), At: id} }

// plain: an edge of a form to an id, that may stand at a level from 0 to the one that is told; of a TBDD that is its tag.
func plain(f api.Form, id uint32, tag int) api.Edge {
	if f == api.TBDD {
		return at(tag, id)
	}
	return at(0, id)
}

// made: a store.
func made(t *testing.T, n, room int) *store.Store {
	t.Helper()
	s, err := store.New(n, room)
	if err != api.OK || s == nil {
		t.Fatalf("New(%d, %d): %v", n, room, err)
	}
	return s
}

// found: the id of the node of a record that may be.
func found(t *testing.T, s *store.Store, r api.Record) uint32 {
	t.Helper()
	id, err := s.Find(r)
	if err != api.OK {
		t.Fatalf("Find(%v): %v", r, err)
	}
	return id
}

// make1: Make, where it must tell an edge.
func make1(t *testing.T, s *store.Store, f api.Form, l int, lo, hi api.Edge) api.Edge {
	t.Helper()
	e, err := Make(s, f, l, lo, hi)
	if err != api.OK {
		t.Fatalf("Make(%d, %d, %v, %v): %v", f, l, lo, hi, err)
	}
	return e
}

// cube1: Cube, where it must tell an edge.
func cube1(t *testing.T, s *store.Store, f api.Form, l int, ones, noughts uint16) api.Edge {
	t.Helper()
	e, err := Cube(s, f, l, ones, noughts)
	if err != api.OK {
		t.Fatalf("Cube(%d, %d, %b, %b): %v", f, l, ones, noughts, err)
	}
	return e
}

// holds: Holds, where it must tell this.
func holds(t *testing.T, s *store.Store, f api.Form, e api.Edge, l int, x uint16, want bool) {
	t.Helper()
	if in, err := Holds(s, f, e, l, x); in != want || err != api.OK {
		t.Fatalf("Holds(%d, %v, %d, %016b): %v, %v, wanted %v", f, e, l, x, in, err, want)
	}
}

// size1: Size, where it must tell this.
func size1(t *testing.T, s *store.Store, f api.Form, e api.Edge, l, want int) {
	t.Helper()
	if size, err := Size(s, f, e, l); size != want || err != api.OK {
		t.Fatalf("Size(%d, %v, %d): %d, %v, wanted %d", f, e, l, size, err, want)
	}
}

// noMake: Make, where it must tell an error.
func noMake(t *testing.T, s *store.Store, f api.Form, l int, lo, hi api.Edge, want api.Err) {
	t.Helper()
	if e, err := Make(s, f, l, lo, hi); e != nothing || err != want {
		t.Fatalf("Make(%d, %d, %v, %v): %v, %v, wanted %v", f, l, lo, hi, e, err, want)
	}
}

// noCube: Cube, likewise.
func noCube(t *testing.T, s *store.Store, f api.Form, l int, ones, noughts uint16, want api.Err) {
	t.Helper()
	if e, err := Cube(s, f, l, ones, noughts); e != nothing || err != want {
		t.Fatalf("Cube(%d, %d, %b, %b): %v, %v, wanted %v", f, l, ones, noughts, e, err, want)
	}
}

// noEdge: View, Holds and Size of an edge, where they must tell an error; and it isn't right.
func noEdge(t *testing.T, s *store.Store, f api.Form, e api.Edge, l int, want api.Err) {
	t.Helper()
	if lo, hi, err := View(s, f, e, l); lo != nothing || hi != nothing || err != want {
		t.Fatalf("View(%d, %v, %d): %v, %v, %v, wanted %v", f, e, l, lo, hi, err, want)
	}
	noAnswer(t, s, f, e, l, want)
}

// noAnswer: likewise without View, that tells another error at the level n.
func noAnswer(t *testing.T, s *store.Store, f api.Form, e api.Edge, l int, want api.Err) {
	t.Helper()
	for _, x := range []uint16{0, 1, 5, 1 << 15, math.MaxUint16} {
		if in, err := Holds(s, f, e, l, x); in || err != want {
			t.Fatalf("Holds(%d, %v, %d, %b): %v, %v, wanted %v", f, e, l, x, in, err, want)
		}
	}
	if size, err := Size(s, f, e, l); size != 0 || err != want {
		t.Fatalf("Size(%d, %v, %d): %d, %v, wanted %v", f, e, l, size, err, want)
	}
	if Right(s, f, e, l) {
		t.Fatalf("Right(%d, %v, %d)", f, e, l)
	}
}

// records of all nodes, by ids.
func records(s *store.Store) map[uint32]api.Record {
	all := map[uint32]api.Record{}
	for id := range s.Ids() {
		r, _ := s.Get(id)
		all[id] = r
	}
	return all
}

// sameNodes: has a store just these nodes?
func sameNodes(t *testing.T, s *store.Store, want map[uint32]api.Record) {
	t.Helper()
	if s.Len() != len(want) {
		t.Fatalf("%d nodes, wanted %d", s.Len(), len(want))
	}
	stillThere(t, s, want)
}

// stillThere: has a store these nodes, whatever others it has?
func stillThere(t *testing.T, s *store.Store, want map[uint32]api.Record) {
	t.Helper()
	for id, r := range want {
		if now, ok := s.Get(id); !ok || now != r {
			t.Fatalf("node %d is %v, wanted %v", id, now, r)
		}
	}
}

// outside: levels that are none of n variables, nor that of the terminals.
func outside(n int) []int {
	return []int{-1, -2, n + 1, n + 2, 17, 18, 255, 256, 256 + n, 1 << 16, 1 << 32, 1<<32 + n, -1 << 32, math.MaxInt, math.MaxInt - 1, math.MinInt, math.MinInt + 1, math.MinInt + n}
}

// allLevels: those of n variables, and those outside.
func allLevels(n int) []int {
	l := outside(n)
	for i := range n + 1 {
		l = append(l, i)
	}
	return l
}

// anyEdges: edges to nothing, to one, to each id up to the last one and some behind it, with tags that may be and others.
func anyEdges(n int, last uint32) []api.Edge {
	ids := []uint32{1 << 20, 1<<20 + 1, 1 << 31, math.MaxUint32}
	for id := range last + 3 {
		ids = append(ids, id)
	}
	var l []api.Edge
	for _, id := range ids {
		for tag := range n + 2 {
			l = append(l, at(tag, id))
		}
		l = append(l, at(17, id), at(255, id))
	}
	return l
}

// leading: all edges of a form that lead at a level.
func leading(s *store.Store, f api.Form, l int) []api.Edge {
	list := []api.Edge{nothing}
	for id := range uint32(s.Len() + 2) {
		for tag := range s.Vars() + 1 {
			if id > 0 && s.Leads(f, at(tag, id), l) {
				list = append(list, at(tag, id))
			}
		}
	}
	return list
}

// zeros: so many.
func zeros(size int) string { return strings.Repeat("0", size) }

// padded: a table as the first ones of a greater table, whose others are 0.
func padded(table string, size int) string { return table + zeros(size-len(table)) }

// meaning: what an edge means, as the Words of its form's chapter tell it: a text of 0 and 1, one of these for each assignment of the levels from l on, the level l as its highest bit.
func meaning(s *store.Store, f api.Form, e api.Edge, l int) string {
	size := 1 << (s.Vars() - l)
	if e.At == 0 {
		return zeros(size)
	}
	set := "1"
	if e.At > 1 {
		r, _ := s.Get(e.At)
		set = meaningOfNode(s, r)
	}
	switch f {
	case api.BDD, api.CBDD:
		return strings.Repeat(set, size/len(set))
	case api.ZDD, api.CZDD:
		return padded(set, size)
	}
	below := 1 << (s.Vars() - int(e.Tag))
	return strings.Repeat(padded(set, below), size/below)
}

// meaningOfNode: likewise, at its Top.
func meaningOfNode(s *store.Store, r api.Record) string {
	below := int(r.Bot) + 1
	lo, hi := meaning(s, r.Form, r.Lo, below), meaning(s, r.Form, r.Hi, below)
	rows := 1 << (below - int(r.Top))
	if r.Form == api.CBDD {
		return lo + strings.Repeat(hi, rows-1)
	}
	return strings.Repeat(lo+hi, rows/2)
}

// place of an assignment in a table from a level on: the bit k of x is the level k.
func place(x uint16, l, n int) int {
	p := 0
	for k := l; k < n; k++ {
		p = p<<1 | int(x>>k&1)
	}
	return p
}

// assignments of the levels from l to n - 1, the other bits 0.
func assignments(l, n int) []uint16 {
	list := []uint16{0}
	for k := l; k < n; k++ {
		for _, x := range list {
			list = append(list, x|1<<k)
		}
	}
	return list
}

// others: all bits that aren't of the levels from l to n - 1.
func others(l, n int) uint16 {
	var bits uint16
	for k := range 16 {
		if k < l || k >= n {
			bits |= 1 << k
		}
	}
	return bits
}

// split a table in its halves.
func split(part string) (lo, hi string) {
	return part[:len(part)/2], part[len(part)/2:]
}

// end: the edge at the end, of a table's one place.
func end(f api.Form, n int, bit byte) api.Edge {
	if bit == '0' {
		return nothing
	}
	return plain(f, 1, n)
}

// build the diagram of a table from below; an error is the first one.
func build(s *store.Store, f api.Form, table string, l int, do func(l int, lo, hi api.Edge) (api.Edge, api.Err)) (api.Edge, api.Err) {
	if l == s.Vars() {
		return end(f, l, table[0]), api.OK
	}
	low, high := split(table)
	lo, err := build(s, f, low, l+1, do)
	if err != api.OK {
		return nothing, err
	}
	hi, err := build(s, f, high, l+1, do)
	if err != api.OK {
		return nothing, err
	}
	return do(l, lo, hi)
}

// byMake: Make of a form, in a store.
func byMake(s *store.Store, f api.Form) func(int, api.Edge, api.Edge) (api.Edge, api.Err) {
	return func(l int, lo, hi api.Edge) (api.Edge, api.Err) { return Make(s, f, l, lo, hi) }
}

// byOwn: likewise, of the form's own package.
func byOwn(s *store.Store, f api.Form) func(int, api.Edge, api.Edge) (api.Edge, api.Err) {
	return func(l int, lo, hi api.Edge) (api.Edge, api.Err) { return ownOf(f).make(s, l, lo, hi) }
}

// built: the diagram of a table, by Make, where there must be room.
func built(t *testing.T, s *store.Store, f api.Form, table string, l int) api.Edge {
	t.Helper()
	e, err := build(s, f, table, l, byMake(s, f))
	if err != api.OK {
		t.Fatalf("build(%d, %s, %d): %v", f, table, l, err)
	}
	return e
}

// table of a number's lowest bits.
func table(x uint64, size int) string {
	b := make([]byte, size)
	for i := range b {
		b[i] = '0' + byte(x>>i&1)
	}
	return string(b)
}

// draw a table of so many levels: some even, some sparse, some dense, some made of few parts, some with levels that play no part, some with levels that are 0.
func draw(r *rand.Rand, l int) string {
	kind := r.Intn(7)
	if kind == 3 && l > 2 {
		parts := []string{draw(r, l-2), draw(r, l-2), zeros(1 << (l - 2))}
		var b strings.Builder
		for range 4 {
			b.WriteString(parts[r.Intn(3)])
		}
		return b.String()
	}
	if kind == 4 && l > 0 {
		length := 1 + r.Intn(l)
		return strings.Repeat(draw(r, l-length), 1<<length)
	}
	if kind > 4 && l > 0 {
		return padded(draw(r, l-1-r.Intn((l+1)/2)), 1<<l)
	}
	limit := []int{4, 1, 7, 4, 4, 4, 4}[kind]
	b := make([]byte, 1<<l)
	for i := range b {
		b[i] = '0'
		if r.Intn(8) < limit {
			b[i] = '1'
		}
	}
	return string(b)
}

// isFree: plays a table's topmost level no part?
func isFree(part string) bool {
	lo, hi := split(part)
	return len(part) > 1 && lo == hi
}

// isNought: are the assignments 0 at a table's topmost level?
func isNought(part string) bool {
	_, hi := split(part)
	return len(part) > 1 && hi == zeros(len(hi))
}

// leftOut: the table that is left of one that isn't all 0, where an edge of a form leaves out what it can.
func leftOut(f api.Form, part string) string {
	for f != api.ZDD && f != api.CZDD && isFree(part) {
		part, _ = split(part)
	}
	for f == api.ZDD || f == api.CZDD || f == api.TBDD {
		lo, _ := split(part)
		// Behind a level that is 0 the tag of a TBDD can't tell of one that plays no part.
		if !isNought(part) || f == api.TBDD && isFree(lo) {
			break
		}
		part = lo
	}
	return part
}

// halvesOf the node of a table that no edge leaves out: below the last level of its chain.
func halvesOf(f api.Form, part string) (lo, hi string) {
	lo, hi = split(part)
	for len(lo) > 1 {
		low, high := split(lo)
		// The same node goes on as a chain of a CBDD if lo asks for its topmost level, and leads to hi from there.
		if f == api.CBDD && low != high && hi == high+high {
			lo, hi = low, high
			continue
		}
		if f == api.CZDD && lo == hi && !isNought(lo) {
			lo, hi = low, high
			continue
		}
		break
	}
	return lo, hi
}

// nodesOf a table's diagram: how many it needs.
func nodesOf(f api.Form, table string) int {
	seen := map[string]bool{}
	var walk func(part string)
	walk = func(part string) {
		if part == zeros(len(part)) {
			return
		}
		part = leftOut(f, part)
		if len(part) == 1 || seen[part] {
			return
		}
		seen[part] = true
		lo, hi := halvesOf(f, part)
		walk(lo)
		walk(hi)
	}
	walk(table)
	return len(seen)
}

// reached: how many nodes an edge reaches, one way after the other.
func reached(s *store.Store, e api.Edge) int {
	seen := map[uint32]bool{}
	list := []api.Edge{e}
	for len(list) > 0 {
		last := list[len(list)-1]
		list = list[:len(list)-1]
		if r, ok := s.Get(last.At); ok && !seen[last.At] {
			seen[last.At] = true
			list = append(list, r.Lo, r.Hi)
		}
	}
	return len(seen)
}

// shape of a diagram, without the ids of its nodes: these are numbered as they are come by.
func shape(s *store.Store, e api.Edge) string {
	numbers := map[uint32]int{}
	var b strings.Builder
	var write func(e api.Edge)
	write = func(e api.Edge) {
		b.WriteString("@" + strconv.Itoa(int(e.Tag)) + " ")
		r, ok := s.Get(e.At)
		if !ok {
			b.WriteString(strconv.Itoa(int(e.At)) + " ")
			return
		}
		if number, old := numbers[e.At]; old {
			b.WriteString("see " + strconv.Itoa(number) + " ")
			return
		}
		numbers[e.At] = len(numbers)
		b.WriteString("(" + strconv.Itoa(int(r.Form)) + " " + strconv.Itoa(int(r.Top)) + ":" + strconv.Itoa(int(r.Bot)) + " ")
		write(r.Lo)
		write(r.Hi)
		b.WriteString(") ")
	}
	write(e)
	return b.String()
}

// everything: all nodes of all forms that may be of n variables, right and cut ones, in a store with room for some more.
func everything(t *testing.T, n, more int) *store.Store {
	t.Helper()
	s := made(t, n, []int{0, 10, 82, 1958}[n]+more)
	for bot := n - 1; bot >= 0; bot-- {
		for _, f := range forms {
			below := leading(s, f, bot+1)
			for _, lo := range below {
				for _, hi := range below {
					for top := bot; top >= 0; top-- {
						r := api.Record{Form: f, Top: uint8(top), Bot: uint8(bot), Lo: lo, Hi: hi}
						if node.Right(r, n) {
							found(t, s, r)
						}
					}
				}
			}
		}
	}
	if s.Len() != s.Room()-more {
		t.Fatalf("%d nodes, wanted %d", s.Len(), s.Room()-more)
	}
	return s
}

// mixed: all forms in one store of 4 variables, right and cut diagrams side by side, with room for some more nodes.
func mixed(t *testing.T, more int) *store.Store {
	t.Helper()
	s := made(t, 4, api.MaxRoom)
	one := api.Edge{At: 1}
	for _, f := range forms {
		low := found(t, s, api.Record{Form: f, Top: 3, Bot: 3, Hi: plain(f, 1, 4)})
		middle := found(t, s, api.Record{Form: f, Top: 1, Bot: 1, Lo: plain(f, low, 2), Hi: plain(f, 1, 2)})
		found(t, s, api.Record{Form: f, Top: 0, Bot: 0, Lo: plain(f, middle, 1), Hi: plain(f, low, 3)})
	}
	// Chains of three levels, and ones that are cut in two.
	any3 := found(t, s, api.Record{Form: api.CBDD, Top: 1, Bot: 3, Hi: one})
	found(t, s, api.Record{Form: api.CBDD, Top: 0, Bot: 0, Lo: at(0, any3), Hi: one})
	free3 := found(t, s, api.Record{Form: api.CZDD, Top: 1, Bot: 3, Hi: one})
	found(t, s, api.Record{Form: api.CZDD, Top: 0, Bot: 0, Lo: at(0, free3), Hi: at(0, free3)})
	// A node that a tag alone would tell.
	low, _ := s.Has(api.Record{Form: api.TBDD, Top: 3, Bot: 3, Hi: at(4, 1)})
	found(t, s, api.Record{Form: api.TBDD, Top: 2, Bot: 2, Lo: at(3, low)})
	if s.Len() != 20 {
		t.Fatalf("%d nodes", s.Len())
	}
	return copyOf(t, s, 20+more)
}

// copyOf a store in which the ids are those from 2 on, with another room.
func copyOf(t *testing.T, s *store.Store, room int) *store.Store {
	t.Helper()
	other := made(t, s.Vars(), room)
	for id := range s.Ids() {
		r, _ := s.Get(id)
		if got := found(t, other, r); got != id {
			t.Fatalf("%d is %d in the copy", id, got)
		}
	}
	return other
}

// sameCalls: Make, View and Right in one store, and those of the form's own package in another one of the same nodes, tell the same and leave the same nodes.
func sameCalls(t *testing.T, a, b *store.Store, f api.Form, l int, e, lo, hi api.Edge) {
	t.Helper()
	o := ownOf(f)
	if is, want := Right(a, f, e, l), o.right(b, e, l); is != want {
		t.Fatalf("Right(%d, %v, %d): %v, wanted %v", f, e, l, is, want)
	}
	low, high, err := View(a, f, e, l)
	if lowToo, highToo, want := o.view(b, e, l); low != lowToo || high != highToo || err != want {
		t.Fatalf("View(%d, %v, %d): %v, %v, %v, wanted %v, %v, %v", f, e, l, low, high, err, lowToo, highToo, want)
	}
	if a.Len() != b.Len() {
		t.Fatalf("View(%d, %v, %d) leaves %d nodes, wanted %d", f, e, l, a.Len(), b.Len())
	}
	is, err := Make(a, f, l, lo, hi)
	if edge, want := o.make(b, l, lo, hi); is != edge || err != want {
		t.Fatalf("Make(%d, %d, %v, %v): %v, %v, wanted %v, %v", f, l, lo, hi, is, err, edge, want)
	}
	if a.Len() != b.Len() {
		t.Fatalf("Make(%d, %d, %v, %v) leaves %d nodes, wanted %d", f, l, lo, hi, a.Len(), b.Len())
	}
}

func TestExample(t *testing.T) { // P17.3, P17.4: the chapter's example, and the assignment of that cube alone
	s := made(t, 3, 50)
	e := cube1(t, s, api.ZDD, 0, 2, 5)
	if r, ok := s.Get(e.At); !ok || node.Text(r) != "zdd 1:1 0 1" || e.Tag != 0 || s.Len() != 1 {
		t.Errorf("%v is %s, of %d nodes", e, node.Text(r), s.Len())
	}
	size1(t, s, api.ZDD, e, 0, 1)
	for x := range uint16(8) {
		holds(t, s, api.ZDD, e, 0, x, x == 2)
	}
}

func TestOwnByHand(t *testing.T) { // P17.1: each form by its own rule, by its own edges
	for _, c := range []struct {
		f          api.Form
		free       string // of the level 1 that plays no part, above a node 2:2
		nought     string // of the level 1 that is 0
		either     string // that leads to that node, and to one
		loOf, hiOf api.Edge
		nodes      int
	}{
		{api.BDD, "bdd 2:2 0 1", "bdd 1:1 2 0", "bdd 1:1 2 1", at(0, 2), at(0, 2), 3},
		{api.ZDD, "zdd 1:1 2 2", "zdd 2:2 0 1", "zdd 1:1 2 1", at(0, 3), nothing, 3},
		{api.CBDD, "cbdd 2:2 0 1", "cbdd 1:1 2 0", "cbdd 1:2 0 1", at(0, 2), at(0, 2), 3},
		{api.CZDD, "czdd 1:2 0 1", "czdd 2:2 0 1", "czdd 1:1 2 1", at(0, 3), nothing, 3},
		{api.TBDD, "tbdd 2:2 0 1@3", "tbdd 2:2 0 1@3", "tbdd 1:1 2@2 1@2", at(2, 2), at(2, 2), 2},
	} {
		s := made(t, 3, 10)
		low := make1(t, s, c.f, 2, nothing, plain(c.f, 1, 3))
		free := make1(t, s, c.f, 1, low, low)
		nought := make1(t, s, c.f, 1, low, nothing)
		either := make1(t, s, c.f, 1, low, plain(c.f, 1, 2))
		for i, e := range []api.Edge{free, nought, either} {
			r, _ := s.Get(e.At)
			if want := []string{c.free, c.nought, c.either}[i]; node.Text(r) != want {
				t.Errorf("form %d: %s, wanted %s", c.f, node.Text(r), want)
			}
			if !Right(s, c.f, e, 1) || Right(s, c.f, e, 2) && r.Top != 2 {
				t.Errorf("form %d: %v at 1: %v, at 2: %v", c.f, e, Right(s, c.f, e, 1), Right(s, c.f, e, 2))
			}
		}
		if lo, hi, err := View(s, c.f, free, 0); lo != c.loOf || hi != c.hiOf || err != api.OK {
			t.Errorf("form %d: View: %v, %v, %v", c.f, lo, hi, err)
		}
		if s.Len() != c.nodes {
			t.Errorf("form %d: %d nodes", c.f, s.Len())
		}
	}
}

func TestViewFull(t *testing.T) { // P17.1: View of a chain makes the node of its rest, and tells Full where there is no room; Holds and Size don't need it
	for _, f := range []api.Form{api.CBDD, api.CZDD} {
		for _, room := range []int{1, 2} {
			s := made(t, 3, room)
			e := at(0, found(t, s, api.Record{Form: f, Top: 0, Bot: 2, Hi: at(0, 1)}))
			for x := range uint16(8) {
				holds(t, s, f, e, 0, x, f == api.CBDD && x > 0 || f == api.CZDD && x > 3)
			}
			size1(t, s, f, e, 0, 1)
			if !Right(s, f, e, 0) || s.Len() != 1 {
				t.Fatalf("form %d: %d nodes", f, s.Len())
			}
			lo, hi, err := View(s, f, e, 0)
			want := map[api.Form][2]api.Edge{api.CBDD: {at(0, 3), at(0, 1)}, api.CZDD: {at(0, 3), at(0, 3)}}[f]
			if room == 1 && (lo != nothing || hi != nothing || err != api.Full) || room == 2 && (lo != want[0] || hi != want[1] || err != api.OK) {
				t.Errorf("form %d, room %d: View: %v, %v, %v", f, room, lo, hi, err)
			}
			if s.Len() != room {
				t.Errorf("form %d: %d nodes, room %d", f, s.Len(), room)
			}
		}
	}
}

func TestOwnEach(t *testing.T) { // P17.1: each edge at each level, leading or not, as the form's own package tells it
	for _, more := range []int{0, 1, 400} {
		a, b := mixed(t, more), mixed(t, more)
		edges := anyEdges(4, 21)
		for _, f := range forms {
			for _, e := range edges {
				for i, l := range allLevels(4) {
					sameCalls(t, a, b, f, l, e, e, edges[(i*31+int(e.At))%len(edges)])
					sameCalls(t, a, b, f, l, e, e, nothing)
					sameCalls(t, a, b, f, l, e, e, e)
				}
			}
		}
		sameNodes(t, a, records(b))
	}
}

func TestOwnPairs(t *testing.T) { // P17.1: Make of each two edges of small stores of all nodes, and View of each
	for n := range 3 {
		for _, more := range []int{0, 3} {
			a, b := everything(t, n, more), everything(t, n, more)
			for _, f := range forms {
				for l := range n {
					below := leading(a, f, l+1)
					for _, e := range leading(a, f, l) {
						sameCalls(t, a, b, f, l, e, e, e)
					}
					for _, lo := range below {
						for _, hi := range below {
							sameCalls(t, a, b, f, l, lo, lo, hi)
						}
					}
				}
			}
			sameNodes(t, a, records(b))
		}
	}
}

func TestOwnDrawn(t *testing.T) { // P17.1: long runs of drawn calls in stores of little room and of much
	r := rand.New(rand.NewSource(171))
	for n := range 7 {
		for _, room := range []int{0, 1, 4, 20, 100, 1000} {
			a, b := made(t, n, room), made(t, n, room)
			for range 800 {
				f := forms[r.Intn(5)]
				l := r.Intn(n+3) - 1
				sameCalls(t, a, b, f, l, pick(r, a, f, l), pick(r, a, f, l+1), pick(r, a, f, l+1))
				if r.Intn(100) == 0 {
					keep := []api.Edge{pick(r, a, forms[r.Intn(5)], 0), pick(r, a, forms[r.Intn(5)], 0)}
					if gone := a.Sweep(keep); gone != b.Sweep(keep) {
						t.Fatalf("%d went", gone)
					}
				}
			}
			sameNodes(t, a, records(b))
		}
	}
}

// pick an edge, most often one that leads at a level.
func pick(r *rand.Rand, s *store.Store, f api.Form, l int) api.Edge {
	list := []api.Edge{nothing}
	if l >= 0 && l <= s.Vars() {
		list = leading(s, f, l)
	}
	e := list[r.Intn(len(list))]
	switch r.Intn(20) {
	case 0:
		e.Tag = uint8(r.Intn(s.Vars() + 2))
	case 1:
		e.At = uint32(r.Intn(s.Room() + 3))
	}
	return e
}

func TestNoForm(t *testing.T) { // P17.1 to P17.4: what is no form, ahead of all but a nil store
	s := mixed(t, 9)
	old := records(s)
	for f := range 256 {
		f := api.Form(f)
		if node.IsForm(f) {
			continue
		}
		for _, l := range []int{0, 3, 4, 5, -1, math.MaxInt, math.MinInt} {
			for _, e := range []api.Edge{nothing, at(0, 1), at(4, 1), at(0, 2), at(3, 14), at(0, 99), at(255, math.MaxUint32)} {
				noMake(t, s, f, l, e, e, api.Shape)
				noMake(t, s, f, l, e, nothing, api.Shape)
				noEdge(t, s, f, e, l, api.Shape)
				noMake(t, nil, f, l, e, e, api.Nil)
				noEdge(t, nil, f, e, l, api.Nil)
			}
			for _, bits := range []uint16{0, 1, 8, 1 << 4, 1 << 15, math.MaxUint16} {
				noCube(t, s, f, l, bits, 0, api.Shape)
				noCube(t, s, f, l, 0, bits, api.Shape)
				noCube(t, s, f, l, bits, bits, api.Shape)
				noCube(t, nil, f, l, bits, bits, api.Nil)
			}
		}
	}
	sameNodes(t, s, old)
}

func TestNil(t *testing.T) { // P17.1 to P17.4: a nil store, whatever else is wrong
	for f := range 256 {
		f := api.Form(f)
		for _, l := range allLevels(1) {
			for _, e := range []api.Edge{nothing, at(0, 1), at(1, 1), at(0, 2), at(255, math.MaxUint32)} {
				noMake(t, nil, f, l, e, e, api.Nil)
				noMake(t, nil, f, l, e, nothing, api.Nil)
				noEdge(t, nil, f, e, l, api.Nil)
			}
			noCube(t, nil, f, l, 0, 0, api.Nil)
			noCube(t, nil, f, l, 1, 1, api.Nil)
			noCube(t, nil, f, l, math.MaxUint16, 1, api.Nil)
		}
	}
}

func TestLevelsOutside(t *testing.T) { // P17.2 to P17.4: a level that there isn't, ahead of an edge that doesn't lead, of bits, and of a full store
	for _, s := range []*store.Store{made(t, 0, 3), mixed(t, 0), made(t, 16, 0), {}} {
		n := s.Vars()
		old := records(s)
		for _, f := range forms {
			for _, l := range outside(n) {
				for _, e := range []api.Edge{nothing, plain(f, 1, n), at(0, 1), at(17, 1), at(0, 2), at(0, 99), at(255, math.MaxUint32), at(1, 0)} {
					noEdge(t, s, f, e, l, api.Var)
					noMake(t, s, f, l, e, e, api.Var)
				}
				for _, bits := range []uint16{0, 1, 1 << 3, 1 << 15, math.MaxUint16} {
					noCube(t, s, f, l, bits, 0, api.Var)
					noCube(t, s, f, l, 0, bits, api.Var)
					noCube(t, s, f, l, bits, bits, api.Var)
				}
			}
			// No node stands at the level of the terminals, but edges do.
			for _, e := range []api.Edge{nothing, plain(f, 1, n), at(0, 99)} {
				noMake(t, s, f, n, e, e, api.Var)
				if lo, hi, err := View(s, f, e, n); lo != nothing || hi != nothing || err != api.Var {
					t.Errorf("View(%d, %v, %d): %v, %v, %v", f, e, n, lo, hi, err)
				}
			}
		}
		sameNodes(t, s, old)
	}
}

func TestNoLead(t *testing.T) { // P17.2, P17.4: each edge at each level of a store of all forms: Arg just of those that don't lead, what it means and how many nodes it reaches of others
	s := mixed(t, 5)
	old := records(s)
	for _, f := range forms {
		for _, e := range anyEdges(4, 22) {
			for l := range 5 {
				if !s.Leads(f, e, l) {
					noAnswer(t, s, f, e, l, api.Arg)
					continue
				}
				asWords(t, s, f, e, l)
				size1(t, s, f, e, l, reached(s, e))
			}
		}
	}
	sameNodes(t, s, old)
}

// asWords: Holds of each assignment of the levels from l on, as the Words tell it.
func asWords(t *testing.T, s *store.Store, f api.Form, e api.Edge, l int) {
	t.Helper()
	n := s.Vars()
	want := meaning(s, f, e, l)
	for _, x := range assignments(l, n) {
		in := want[place(x, l, n)] == '1'
		holds(t, s, f, e, l, x, in)
		holds(t, s, f, e, l, x|others(l, n), in)
	}
}

func TestNoLeadByHand(t *testing.T) { // P17.2, P17.4: edges that don't lead, one by one
	s := made(t, 3, 20)
	chain := found(t, s, api.Record{Form: api.CBDD, Top: 0, Bot: 2, Hi: at(0, 1)})
	free := found(t, s, api.Record{Form: api.CZDD, Top: 0, Bot: 2, Hi: at(0, 1)})
	tag := found(t, s, api.Record{Form: api.TBDD, Top: 2, Bot: 2, Hi: at(3, 1)})
	low := found(t, s, api.Record{Form: api.BDD, Top: 1, Bot: 1, Hi: at(0, 1)})
	zero := found(t, s, api.Record{Form: api.ZDD, Top: 1, Bot: 1, Hi: at(0, 1)})
	old := records(s)
	for _, c := range []struct {
		f api.Form
		e api.Edge
		l int
	}{
		{api.CBDD, at(0, chain), 1}, // between the Top and the Bot of a chain, at its Bot, below it
		{api.CBDD, at(0, chain), 2},
		{api.CBDD, at(0, chain), 3},
		{api.CZDD, at(0, free), 1},
		{api.CZDD, at(0, free), 2},
		{api.CZDD, at(0, free), 3},
		{api.TBDD, at(1, tag), 2}, // above which its Tag is
		{api.TBDD, at(0, tag), 1},
		{api.TBDD, at(2, tag), 3},
		{api.TBDD, at(3, tag), 0}, // a Tag below the node
		{api.TBDD, at(3, tag), 3},
		{api.TBDD, at(1, 1), 2},
		{api.TBDD, at(0, 1), 3},
		{api.TBDD, at(4, 1), 0},
		{api.TBDD, at(1, 0), 0}, // nothing has no tag
		{api.TBDD, at(3, 0), 3},
		{api.BDD, at(0, low), 2}, // below its node
		{api.BDD, at(0, low), 3},
		{api.ZDD, at(0, zero), 2},
		{api.BDD, at(1, low), 0}, // a tag
		{api.BDD, at(1, 1), 0},
		{api.ZDD, at(1, 0), 0},
		{api.CBDD, at(2, chain), 0},
		{api.CZDD, at(255, 1), 1},
		{api.BDD, at(0, zero), 0}, // of another form
		{api.ZDD, at(0, low), 0},
		{api.CBDD, at(0, free), 0},
		{api.CZDD, at(0, chain), 0},
		{api.TBDD, at(0, low), 0},
		{api.BDD, at(0, tag), 0},
		{api.BDD, at(0, 7), 0}, // no node's
		{api.ZDD, at(0, 1<<20), 1},
		{api.TBDD, at(0, math.MaxUint32), 0},
	} {
		noAnswer(t, s, c.f, c.e, c.l, api.Arg)
	}
	sameNodes(t, s, old)
}

func TestHoldsByHand(t *testing.T) { // P17.2: what is left out, and what a node and a chain ask for, form by form
	s := made(t, 5, 20)
	rec := func(f api.Form, top, bot int, lo, hi api.Edge) uint32 {
		return found(t, s, api.Record{Form: f, Top: uint8(top), Bot: uint8(bot), Lo: lo, Hi: hi})
	}
	plays := at(0, rec(api.BDD, 2, 2, nothing, at(0, 1)))
	single := at(0, rec(api.ZDD, 2, 2, nothing, at(0, 1)))
	some := at(0, rec(api.CBDD, 1, 3, nothing, at(0, 1)))
	none := at(0, rec(api.CBDD, 1, 3, at(0, 1), nothing))
	last := at(0, rec(api.CZDD, 1, 3, nothing, at(0, 1)))
	either := at(0, rec(api.CZDD, 1, 3, at(0, 1), at(0, 1)))
	id := rec(api.TBDD, 3, 3, nothing, at(5, 1))
	for _, c := range []struct {
		f    api.Form
		e    api.Edge
		l    int
		want string // the assignments, the level l first: a dot is either value
	}{
		{api.BDD, plays, 0, "..1.."},
		{api.BDD, plays, 1, ".1.."},
		{api.BDD, plays, 2, "1.."},
		{api.ZDD, single, 0, "00100"},
		{api.ZDD, single, 1, "0100"},
		{api.ZDD, single, 2, "100"},
		{api.CBDD, some, 0, ".1... ..1.. ...1."},
		{api.CBDD, some, 1, "1... .1.. ..1."},
		{api.CBDD, none, 0, ".000."},
		{api.CBDD, none, 1, "000."},
		{api.CZDD, last, 0, "0..10"},
		{api.CZDD, last, 1, "..10"},
		{api.CZDD, either, 0, "0...0"},
		{api.CZDD, either, 1, "...0"},
		{api.TBDD, at(0, id), 0, "0001."},
		{api.TBDD, at(1, id), 0, ".001."},
		{api.TBDD, at(1, id), 1, "001."},
		{api.TBDD, at(2, id), 0, "..01."},
		{api.TBDD, at(2, id), 1, ".01."},
		{api.TBDD, at(3, id), 0, "...1."},
		{api.TBDD, at(3, id), 3, "1."},
		{api.TBDD, at(0, 1), 0, "00000"},
		{api.TBDD, at(2, 1), 0, "..000"},
		{api.TBDD, at(2, 1), 2, "000"},
		{api.TBDD, at(5, 1), 0, "....."},
		{api.TBDD, at(5, 1), 4, "."},
	} {
		for x := range uint16(1 << 5) {
			want := false
			for _, p := range strings.Fields(c.want) {
				want = want || matches(p, x>>c.l)
			}
			holds(t, s, c.f, c.e, c.l, x, want)
		}
	}
}

// matches: has the bit i of x the value that the sign i of a pattern asks for?
func matches(pattern string, x uint16) bool {
	for i := range len(pattern) {
		if pattern[i] != '.' && uint16(pattern[i]-'0') != x>>i&1 {
			return false
		}
	}
	return true
}

func TestEnds(t *testing.T) { // P17.2, P17.4: nothing and one, of each form, with each tag, at each level of 0 to 16 variables
	for n := range api.MaxVars + 1 {
		s := made(t, n, 0)
		for _, f := range forms {
			for l := range n + 1 {
				size1(t, s, f, nothing, l, 0)
				for _, x := range cornerBits(l, n) {
					holds(t, s, f, nothing, l, x, false)
				}
				for tag := range n + 2 {
					e := at(tag, 1)
					if f == api.TBDD && (tag < l || tag > n) || f != api.TBDD && tag > 0 {
						noAnswer(t, s, f, e, l, api.Arg)
						continue
					}
					size1(t, s, f, e, l, 0)
					oneHolds(t, s, f, e, l)
				}
			}
		}
		if s.Len() != 0 {
			t.Errorf("n %d: %d nodes", n, s.Len())
		}
	}
}

// cornerBits: no bit, all, each alone, all but one, those of the levels from l to n - 1, and the others.
func cornerBits(l, n int) []uint16 {
	list := []uint16{0, math.MaxUint16, others(l, n), ^others(l, n)}
	for k := range 16 {
		list = append(list, 1<<k, ^uint16(1<<k), 1<<k|others(l, n), 1<<k&^others(l, n))
	}
	return list
}

// oneHolds: Holds of an edge to one, by the form's Words.
func oneHolds(t *testing.T, s *store.Store, f api.Form, e api.Edge, l int) {
	t.Helper()
	from := map[api.Form]int{api.BDD: s.Vars(), api.CBDD: s.Vars(), api.ZDD: l, api.CZDD: l, api.TBDD: int(e.Tag)}[f]
	for _, x := range cornerBits(l, s.Vars()) {
		want := true
		for k := from; k < s.Vars(); k++ {
			want = want && x>>k&1 == 0
		}
		holds(t, s, f, e, l, x, want)
	}
}

func TestHoldsEach(t *testing.T) { // P17.2, P17.4: all edges to all nodes that may be of up to three variables, at each level
	for n := range 4 {
		s := everything(t, n, 0)
		old := records(s)
		for _, f := range forms {
			for l := range n + 1 {
				for _, e := range leading(s, f, l) {
					asWords(t, s, f, e, l)
					size1(t, s, f, e, l, reached(s, e))
				}
			}
		}
		sameNodes(t, s, old)
	}
}

func TestHoldsAllBits(t *testing.T) { // P17.2: each number x, of sets of three levels of five: what counts is the bits from l to n - 1
	r := rand.New(rand.NewSource(172))
	s := made(t, 5, api.MaxRoom)
	for _, f := range forms {
		set := draw(r, 3)
		e := built(t, s, f, set, 2)
		size := s.Len()
		for x := range 1 << 16 {
			holds(t, s, f, e, 2, uint16(x), set[place(uint16(x), 2, 5)] == '1')
		}
		if s.Len() != size {
			t.Errorf("%d nodes, were %d", s.Len(), size)
		}
	}
}

func TestHoldsDrawn(t *testing.T) { // P17.2: drawn sets of each form, made from below, in one store: each assignment, at each level
	r := rand.New(rand.NewSource(1702))
	for n := range 11 {
		s := made(t, n, api.MaxRoom)
		for range 8 {
			for _, f := range forms {
				l := r.Intn(n+1) / 2
				set := draw(r, n-l)
				e := built(t, s, f, set, l)
				if got := meaning(s, f, e, l); got != set || !Right(s, f, e, l) {
					t.Fatalf("form %d at %d: %v means %s, wanted %s", f, l, e, got, set)
				}
				old := records(s)
				for above := range l + 1 {
					asWords(t, s, f, e, above)
				}
				for _, x := range assignments(l, n) {
					holds(t, s, f, e, l, x|others(l, n)&uint16(r.Uint32()), set[place(x, l, n)] == '1')
				}
				sameNodes(t, s, old)
			}
		}
	}
}

func TestHoldsSixteen(t *testing.T) { // P17.2, P17.4: sixteen variables: a single assignment, all others, that an odd number of levels is 1
	r := rand.New(rand.NewSource(1716))
	for _, f := range forms {
		s := made(t, 16, 400)
		only := uint16(r.Uint32())
		one := cube1(t, s, f, 0, only, ^only)
		even, odd := plain(f, 1, 16), nothing
		rest := nothing
		all := plain(f, 1, 16)
		for l := 15; l >= 0; l-- {
			even, odd = make1(t, s, f, l, even, odd), make1(t, s, f, l, odd, even)
			if only>>l&1 == 0 {
				rest = make1(t, s, f, l, rest, all)
			} else {
				rest = make1(t, s, f, l, all, rest)
			}
			all = make1(t, s, f, l, all, all)
		}
		nodes := s.Len()
		for x := range 1 << 16 {
			x := uint16(x)
			holds(t, s, f, one, 0, x, x == only)
			holds(t, s, f, rest, 0, x, x != only)
			holds(t, s, f, all, 0, x, true)
			holds(t, s, f, odd, 0, x, ones(x)%2 == 1)
		}
		if s.Len() != nodes {
			t.Errorf("form %d: %d nodes, were %d", f, s.Len(), nodes)
		}
	}
}

// ones: how many bits are 1.
func ones(x uint16) int {
	n := 0
	for ; x != 0; x &= x - 1 {
		n++
	}
	return n
}

// cubeTable: the table of a cube of the levels from l to n - 1.
func cubeTable(l, n int, ones, noughts uint16) string {
	b := make([]byte, 1<<(n-l))
	for _, x := range assignments(l, n) {
		b[place(x, l, n)] = '0'
		if x&ones == ones && x&noughts == 0 {
			b[place(x, l, n)] = '1'
		}
	}
	return string(b)
}

// cubeByOwn: a cube made from below, by the form's own package; an error is the first one.
func cubeByOwn(s *store.Store, f api.Form, l int, ones, noughts uint16) (api.Edge, api.Err) {
	e := plain(f, 1, s.Vars())
	for k := s.Vars() - 1; k >= l; k-- {
		lo, hi := e, e
		switch {
		case ones>>k&1 == 1:
			lo = nothing
		case noughts>>k&1 == 1:
			hi = nothing
		}
		var err api.Err
		if e, err = ownOf(f).make(s, k, lo, hi); err != api.OK {
			return nothing, err
		}
	}
	return e, api.OK
}

// cubes: what is done for each of the cubes of the levels from l to n - 1.
func cubes(l, n int, do func(ones, noughts uint16)) {
	for _, ones := range assignments(l, n) {
		for _, noughts := range assignments(l, n) {
			if ones&noughts == 0 {
				do(ones, noughts)
			}
		}
	}
}

func TestCubes(t *testing.T) { // P17.3: all cubes of up to six variables, from each level on, of each form: what they mean, which edge it is, which nodes are left
	for n := range 7 {
		for _, f := range forms {
			for l := range n + 1 {
				s, other := made(t, n, 5000), made(t, n, 5000)
				cubes(l, n, func(ones, noughts uint16) {
					e := cube1(t, s, f, l, ones, noughts)
					if want, err := cubeByOwn(other, f, l, ones, noughts); e != want || err != api.OK {
						t.Fatalf("Cube(%d, %d, %b, %b): %v, wanted %v", f, l, ones, noughts, e, want)
					}
					if s.Len() != other.Len() {
						t.Fatalf("Cube(%d, %d, %b, %b): %d nodes, wanted %d", f, l, ones, noughts, s.Len(), other.Len())
					}
					set := cubeTable(l, n, ones, noughts)
					if got := meaning(s, f, e, l); got != set || !Right(s, f, e, l) {
						t.Fatalf("Cube(%d, %d, %b, %b): %v means %s, wanted %s", f, l, ones, noughts, e, got, set)
					}
				})
				sameNodes(t, s, records(other))
			}
		}
	}
}

func TestCubesAgain(t *testing.T) { // P17.3: told again, and made as a table is, in one store of all forms: the same edge, and no other node
	r := rand.New(rand.NewSource(173))
	for n := range 6 {
		s := made(t, n, api.MaxRoom)
		for range 60 {
			f, l := forms[r.Intn(5)], r.Intn(n+1)
			ones := uint16(r.Uint32()) &^ others(l, n)
			noughts := uint16(r.Uint32()) &^ others(l, n) &^ ones
			e := cube1(t, s, f, l, ones, noughts)
			old := records(s)
			if again := cube1(t, s, f, l, ones, noughts); again != e {
				t.Fatalf("Cube(%d, %d, %b, %b): %v, then %v", f, l, ones, noughts, e, again)
			}
			set := cubeTable(l, n, ones, noughts)
			if again := built(t, s, f, set, l); again != e {
				t.Fatalf("Cube(%d, %d, %b, %b): %v, and %v by its table", f, l, ones, noughts, e, again)
			}
			sameNodes(t, s, old)
			asWords(t, s, f, e, l)
			size1(t, s, f, e, l, nodesOf(f, set))
		}
	}
}

func TestCubesByHand(t *testing.T) { // P17.3, P17.4: no bit, all bits of one of both, of 0 to 16 variables, from each level on: how many nodes the edge has, and how many are left
	for n := range api.MaxVars + 1 {
		for l := range n + 1 {
			m := n - l // levels
			chain := min(m, 1)
			for _, c := range []struct {
				f       api.Form
				bits    string
				size    int
				left    int // nodes in the store
				to      uint32
				without bool // without a node
			}{
				{f: api.BDD, bits: "none", to: 1, without: true},
				{f: api.ZDD, bits: "none", size: m, left: m},
				{f: api.CBDD, bits: "none", to: 1, without: true},
				{f: api.CZDD, bits: "none", size: chain, left: m},
				{f: api.TBDD, bits: "none", to: 1, without: true},
				{f: api.BDD, bits: "ones", size: m, left: m},
				{f: api.ZDD, bits: "ones", size: m, left: m},
				{f: api.CBDD, bits: "ones", size: m, left: m},
				{f: api.CZDD, bits: "ones", size: m, left: m},
				{f: api.TBDD, bits: "ones", size: m, left: m},
				{f: api.BDD, bits: "noughts", size: m, left: m},
				{f: api.ZDD, bits: "noughts", to: 1, without: true},
				{f: api.CBDD, bits: "noughts", size: chain, left: m},
				{f: api.CZDD, bits: "noughts", to: 1, without: true},
				{f: api.TBDD, bits: "noughts", to: 1, without: true},
			} {
				all := ^others(l, n)
				pair := map[string][2]uint16{"none": {0, 0}, "ones": {all, 0}, "noughts": {0, all}}[c.bits]
				s := made(t, n, 16)
				e := cube1(t, s, c.f, l, pair[0], pair[1])
				size1(t, s, c.f, e, l, c.size)
				if s.Len() != c.left || c.without && e.At != c.to {
					t.Errorf("n %d: Cube(%d, %d, %s): %v, of %d nodes", n, c.f, l, c.bits, e, s.Len())
				}
				if m == 0 && e != plain(c.f, 1, n) {
					t.Errorf("n %d: Cube(%d, %d, %s): %v", n, c.f, l, c.bits, e)
				}
				for _, x := range cornerBits(l, n) {
					holds(t, s, c.f, e, l, x, x&pair[0] == pair[0] && x&pair[1] == 0)
				}
			}
		}
	}
}

func TestCubesAtTheEnd(t *testing.T) { // P17.3: at the level n one, and no bit may be; in a store without room
	for n := range api.MaxVars + 1 {
		s := made(t, n, 0)
		for _, f := range forms {
			if e := cube1(t, s, f, n, 0, 0); e != plain(f, 1, n) || e != node.One(f, n) {
				t.Errorf("n %d: Cube(%d, %d): %v", n, f, n, e)
			}
			for k := range 16 {
				noCube(t, s, f, n, 1<<k, 0, api.Var)
				noCube(t, s, f, n, 0, 1<<k, api.Var)
				noCube(t, s, f, n, 1<<k, 1<<k, api.Var)
			}
		}
	}
}

func TestCubeBits(t *testing.T) { // P17.3: a bit for a level that isn't from l to n - 1, in one of both, ahead of one that both have, and that ahead of a full store
	for n := range api.MaxVars + 1 {
		for _, room := range []int{0, 16} {
			for l := range n + 1 {
				for _, f := range forms {
					s := made(t, n, room)
					wrongBits(t, s, f, l)
					if s.Len() != 0 {
						t.Fatalf("n %d: %d nodes", n, s.Len())
					}
				}
			}
		}
	}
}

// wrongBits: each bit beside others that are right, and beside others that are wrong.
func wrongBits(t *testing.T, s *store.Store, f api.Form, l int) {
	t.Helper()
	n := s.Vars()
	within := ^others(l, n)
	for k := range 16 {
		bit := uint16(1) << k
		if within&bit == 0 {
			for _, rest := range []uint16{0, bit, within, within | bit, math.MaxUint16} {
				noCube(t, s, f, l, bit, rest, api.Var)
				noCube(t, s, f, l, rest, bit, api.Var)
				noCube(t, s, f, l, bit|within, rest, api.Var)
				noCube(t, s, f, l, rest, bit|within, api.Var)
			}
			continue
		}
		noCube(t, s, f, l, bit, bit, api.Arg)
		noCube(t, s, f, l, within, bit, api.Arg)
		noCube(t, s, f, l, bit, within, api.Arg)
		noCube(t, s, f, l, within, within, api.Arg)
	}
}

func TestCubeBitsEach(t *testing.T) { // P17.3: each pair of bits of up to 5 levels, of three variables, from each level on
	for _, f := range forms {
		s := made(t, 3, 200)
		for l := range 4 {
			within := ^others(l, 3)
			for ones := range uint16(32) {
				for noughts := range uint16(32) {
					old := s.Len()
					switch {
					case (ones|noughts)&^within != 0:
						noCube(t, s, f, l, ones, noughts, api.Var)
					case ones&noughts != 0:
						noCube(t, s, f, l, ones, noughts, api.Arg)
					default:
						e := cube1(t, s, f, l, ones, noughts)
						if got := meaning(s, f, e, l); got != cubeTable(l, 3, ones, noughts) {
							t.Fatalf("Cube(%d, %d, %b, %b): %v means %s", f, l, ones, noughts, e, got)
						}
						old = s.Len()
					}
					if s.Len() != old {
						t.Fatalf("Cube(%d, %d, %b, %b) makes a node", f, l, ones, noughts)
					}
				}
			}
		}
	}
}

func TestCubesFull(t *testing.T) { // P17.3: in a store of each room from 0 on: Full, and nothing beside it, or the edge; and the nodes that are made from below
	for n := range 6 {
		for _, f := range forms {
			for room := range n + 2 {
				for l := range n + 1 {
					cubes(l, n, func(ones, noughts uint16) {
						s, other := made(t, n, room), made(t, n, room)
						want, wrong := cubeByOwn(other, f, l, ones, noughts)
						if e, err := Cube(s, f, l, ones, noughts); e != want || err != wrong || err == api.Full && e != nothing {
							t.Fatalf("room %d: Cube(%d, %d, %b, %b): %v, %v, wanted %v, %v", room, f, l, ones, noughts, e, err, want, wrong)
						}
						if wrong != api.OK && (wrong != api.Full || s.Len() != room) {
							t.Fatalf("room %d: Cube(%d, %d, %b, %b): %v, %d nodes", room, f, l, ones, noughts, wrong, s.Len())
						}
						sameNodes(t, s, records(other))
					})
				}
			}
		}
	}
}

func TestCubesFullByHand(t *testing.T) { // P17.3: the assignment of 1 at all of sixteen levels: Full with room for 15 nodes and less, each time anew
	for _, f := range forms {
		for room := range 17 {
			s := made(t, 16, room)
			for range 2 {
				if room < 16 {
					noCube(t, s, f, 0, math.MaxUint16, 0, api.Full)
				} else if e := cube1(t, s, f, 0, math.MaxUint16, 0); e != plain(f, 17, 0) {
					t.Errorf("form %d: %v", f, e)
				}
				if s.Len() != room {
					t.Errorf("form %d: %d nodes, room %d", f, s.Len(), room)
				}
			}
			// What is wrong comes ahead of what there is no room for.
			noCube(t, s, f, 0, math.MaxUint16, 1<<15, api.Arg)
			noCube(t, s, f, 1, math.MaxUint16, 0, api.Var)
			noCube(t, s, f, 17, 0, 0, api.Var)
		}
	}
}

func TestSizeByHand(t *testing.T) { // P17.4: a node that two ways lead to counts once, one that no way leads to not at all
	for _, f := range forms {
		s := made(t, 4, 20)
		low := make1(t, s, f, 3, nothing, plain(f, 1, 4))
		left := make1(t, s, f, 1, nothing, make1(t, s, f, 2, low, nothing))
		right := make1(t, s, f, 1, make1(t, s, f, 2, nothing, low), nothing)
		beside := make1(t, s, f, 0, right, left)
		sizes := map[api.Form][3]int{api.BDD: {3, 3, 6}, api.ZDD: {2, 2, 4}, api.CBDD: {3, 3, 6}, api.CZDD: {2, 2, 4}, api.TBDD: {2, 2, 4}}[f]
		for i, e := range []api.Edge{left, right, beside} {
			l := 1
			if i == 2 {
				l = 0
			}
			size1(t, s, f, e, l, sizes[i])
		}
		size1(t, s, f, low, 3, 1)
		size1(t, s, f, low, 0, 1)
		size1(t, s, f, nothing, 0, 0)
		size1(t, s, f, plain(f, 1, 4), 4, 0)
	}
}

func TestSizeOfParts(t *testing.T) { // P17.4: of each edge of drawn diagrams, at each level at which it leads
	r := rand.New(rand.NewSource(174))
	for n := range 8 {
		s := made(t, n, api.MaxRoom)
		for range 4 {
			for _, f := range forms {
				e := built(t, s, f, draw(r, n), 0)
				old := records(s)
				for _, id := range s.Reach([]api.Edge{e}) {
					for _, part := range []api.Edge{old[id].Lo, old[id].Hi} {
						for l := range n + 1 {
							if s.Leads(f, part, l) {
								size1(t, s, f, part, l, reached(s, part))
								continue
							}
							noAnswer(t, s, f, part, l, api.Arg)
						}
					}
				}
				sameNodes(t, s, old)
			}
		}
	}
}

func TestSwept(t *testing.T) { // P17.1, P17.2, P17.4: an edge whose node went leads nowhere, and none of another form that came to its id
	for i, f := range forms {
		s := made(t, 3, 5)
		e := make1(t, s, f, 2, nothing, plain(f, 1, 3))
		if gone := s.Sweep(nil); gone != 1 {
			t.Fatalf("%d went", gone)
		}
		noEdge(t, s, f, e, 2, api.Arg)
		noMake(t, s, f, 1, e, nothing, api.Arg)
		g := forms[(i+1)%5]
		if other := make1(t, s, g, 2, nothing, plain(g, 1, 3)); other.At != e.At {
			t.Fatalf("%v, wanted the id that came free", other)
		}
		noEdge(t, s, f, e, 2, api.Arg)
		noMake(t, s, f, 1, e, nothing, api.Arg)
	}
}

func TestSideBySide(t *testing.T) { // P17.5: drawn sets of all forms in one store: each is what it is in a store of its own, and stays so
	r := rand.New(rand.NewSource(175))
	type kept struct {
		f     api.Form
		e     api.Edge
		l     int
		set   string
		shape string
		size  int
	}
	for n := range 8 {
		s := made(t, n, api.MaxRoom)
		var all []kept
		for range 40 {
			f, l := forms[r.Intn(5)], r.Intn(n+1)/2
			set := draw(r, n-l)
			alone := made(t, n, api.MaxRoom)
			own, err := build(alone, f, set, l, byOwn(alone, f))
			if err != api.OK {
				t.Fatal(err)
			}
			before := records(s)
			k := kept{f, built(t, s, f, set, l), l, set, shape(alone, own), reached(alone, own)}
			stillThere(t, s, before)
			all = append(all, k)
		}
		for _, k := range all {
			if got := shape(s, k.e); got != k.shape || !Right(s, k.f, k.e, k.l) {
				t.Fatalf("form %d: %s is %s beside others, alone %s", k.f, k.set, got, k.shape)
			}
			size1(t, s, k.f, k.e, k.l, k.size)
			asWords(t, s, k.f, k.e, k.l)
			if again := built(t, s, k.f, k.set, k.l); again != k.e {
				t.Fatalf("form %d: %s is %v, was %v", k.f, k.set, again, k.e)
			}
		}
	}
}

func TestSideBySideCalls(t *testing.T) { // P17.5, R2: whatever calls come, right or wrong, each node there stays what it is
	r := rand.New(rand.NewSource(1705))
	for n := range 6 {
		for _, room := range []int{0, 3, 30, 300} {
			s := made(t, n, room)
			for range 600 {
				f, l := forms[r.Intn(5)], r.Intn(n+3)-1
				old := records(s)
				err := drawnCall(r, s, f, l)
				stillThere(t, s, old)
				if err != api.OK && err != api.Full && s.Len() != len(old) {
					t.Fatalf("%d nodes beside %v, were %d", s.Len(), err, len(old))
				}
			}
		}
	}
}

// drawnCall: one of the calls, of drawn arguments; its error.
func drawnCall(r *rand.Rand, s *store.Store, f api.Form, l int) api.Err {
	var err api.Err
	switch r.Intn(5) {
	case 0:
		_, err = Make(s, f, l, pick(r, s, f, l+1), pick(r, s, f, l+1))
	case 1:
		_, _, err = View(s, f, pick(r, s, f, l), l)
	case 2:
		bits := uint16(r.Intn(1 << s.Vars()))
		_, err = Cube(s, f, l, bits, uint16(r.Intn(1<<s.Vars()))&^bits)
	case 3:
		_, err = Holds(s, f, pick(r, s, f, l), l, uint16(r.Uint32()))
	default:
		_, err = Size(s, f, pick(r, s, f, l), l)
	}
	return err
}

// sizesOf a set in all forms, made from below in one store, held against how many nodes its table needs.
func sizesOf(t *testing.T, s *store.Store, set string, l int) map[api.Form]int {
	t.Helper()
	sizes := map[api.Form]int{}
	for _, f := range forms {
		e := built(t, s, f, set, l)
		if !Right(s, f, e, l) || meaning(s, f, e, l) != set {
			t.Fatalf("form %d: %s at %d: %v", f, set, l, e)
		}
		sizes[f] = nodesOf(f, set)
		size1(t, s, f, e, l, sizes[f])
	}
	return sizes
}

// noGreater: the sizes, as P17.6 tells.
func noGreater(t *testing.T, sizes map[api.Form]int, set string) {
	t.Helper()
	if sizes[api.CBDD] > sizes[api.BDD] || sizes[api.CZDD] > sizes[api.ZDD] || sizes[api.TBDD] > min(sizes[api.BDD], sizes[api.ZDD]) {
		t.Fatalf("sizes of %s: %v", set, sizes)
	}
}

func TestSizesOfAll(t *testing.T) { // P17.6: of all sets of up to three levels, at each level of up to four
	for n := range 5 {
		s := made(t, n, 10000)
		for l := max(0, n-3); l <= n; l++ {
			size := 1 << (n - l)
			for x := range uint64(1) << size {
				set := table(x, size)
				noGreater(t, sizesOf(t, s, set, l), set)
			}
		}
	}
}

func TestSizesDrawn(t *testing.T) { // P17.6: of drawn sets
	r := rand.New(rand.NewSource(176))
	for n := range 11 {
		for range 30 {
			s := made(t, n, api.MaxRoom)
			set := draw(r, n)
			noGreater(t, sizesOf(t, s, set, 0), set)
		}
	}
}

func TestSizesByHand(t *testing.T) { // P17.4, P17.6: the sizes that DOC.md's examples tell, and others that differ from form to form
	all := func(n int) string { return strings.Repeat("1", 1<<n) }
	some := func(n int) string { return "0" + strings.Repeat("1", 1<<n-1) }
	none := func(n int) string { return padded("1", 1<<n) }
	for _, c := range []struct {
		set                        string
		bdd, zdd, cbdd, czdd, tbdd int
	}{
		{"0000010100110111", 6, 8, 6, 8, 6},
		{"0001000100011111", 4, 7, 4, 6, 4},
		{zeros(8), 0, 0, 0, 0, 0},
		{all(8), 0, 8, 0, 1, 0},
		{some(8), 8, 15, 1, 15, 8},
		{none(8), 8, 0, 1, 0, 0},
		{"0110100110010110", 7, 6, 7, 6, 6},
		{"0101010101010101", 1, 4, 1, 1, 1},
		{"0100000000000000", 4, 1, 2, 1, 1},
	} {
		n := 0
		for 1<<n < len(c.set) {
			n++
		}
		s := made(t, n, 1000)
		sizes := sizesOf(t, s, c.set, 0)
		noGreater(t, sizes, c.set)
		if got := [5]int{sizes[api.BDD], sizes[api.ZDD], sizes[api.CBDD], sizes[api.CZDD], sizes[api.TBDD]}; got != [5]int{c.bdd, c.zdd, c.cbdd, c.czdd, c.tbdd} {
			t.Errorf("sizes of %s: %v", c.set, got)
		}
	}
}

func TestExamplesOfTheWhole(t *testing.T) { // P17.3, P17.4: DOC.md's examples 2 to 4: of sixteen variables all assignments, at least one that is 1, noughts alone
	sizes := map[api.Form][3]int{api.BDD: {0, 16, 16}, api.ZDD: {16, 31, 0}, api.CBDD: {0, 1, 1}, api.CZDD: {1, 31, 0}, api.TBDD: {0, 16, 0}}
	for _, f := range forms {
		s := made(t, 16, 100)
		all := cube1(t, s, f, 0, 0, 0)
		some := nothing
		for l := 15; l >= 0; l-- {
			some = make1(t, s, f, l, some, cube1(t, s, f, l+1, 0, 0))
		}
		none := cube1(t, s, f, 0, 0, math.MaxUint16)
		for i, e := range []api.Edge{all, some, none} {
			size1(t, s, f, e, 0, sizes[f][i])
			if !Right(s, f, e, 0) {
				t.Errorf("form %d: %v isn't right", f, e)
			}
		}
		for x := range 1 << 16 {
			holds(t, s, f, all, 0, uint16(x), true)
			holds(t, s, f, some, 0, uint16(x), x > 0)
			holds(t, s, f, none, 0, uint16(x), x == 0)
		}
		if r, ok := s.Get(all.At); f == api.CZDD && (!ok || node.Text(r) != "czdd 0:15 1 1") {
			t.Errorf("all assignments: %s", node.Text(r))
		}
	}
}

func TestNoVariables(t *testing.T) { // P17.1 to P17.4: of a store for 0 variables, and of one that New didn't make
	for _, s := range []*store.Store{made(t, 0, 5), {}} {
		for _, f := range forms {
			one := at(0, 1)
			for _, x := range cornerBits(0, 0) {
				holds(t, s, f, one, 0, x, true)
				holds(t, s, f, nothing, 0, x, false)
			}
			size1(t, s, f, one, 0, 0)
			size1(t, s, f, nothing, 0, 0)
			if e := cube1(t, s, f, 0, 0, 0); e != one || !Right(s, f, e, 0) || !Right(s, f, nothing, 0) || Right(s, f, e, 1) {
				t.Errorf("Cube(%d, 0, 0, 0): %v", f, e)
			}
			noCube(t, s, f, 0, 1, 0, api.Var)
			noCube(t, s, f, 0, 0, 1<<15, api.Var)
			noMake(t, s, f, 0, one, one, api.Var)
			noAnswer(t, s, f, at(1, 1), 0, api.Arg)
			noAnswer(t, s, f, at(0, 2), 0, api.Arg)
			noEdge(t, s, f, one, 1, api.Var)
		}
		if s.Len() != 0 {
			t.Errorf("%d nodes", s.Len())
		}
	}
}

func TestNothingPanics(t *testing.T) { // R1, R2, R6: drawn arguments of any kind, and the same again
	r := rand.New(rand.NewSource(1))
	stores := []*store.Store{nil, {}, made(t, 0, 3), everything(t, 2, 0), mixed(t, 0), mixed(t, 40), made(t, 16, 0), made(t, 16, 50)}
	ends := allLevels(2)
	edge := func() api.Edge { return at(r.Intn(256)>>r.Intn(9), r.Uint32()>>r.Intn(33)) }
	for range 200000 {
		s := stores[r.Intn(len(stores))]
		f, l := api.Form(r.Intn(256)>>r.Intn(7)), r.Intn(17)
		if r.Intn(4) == 0 {
			l = ends[r.Intn(len(ends))]
		}
		ones, noughts := uint16(r.Uint32())>>r.Intn(17), uint16(r.Uint32())>>r.Intn(17)
		twice(t, s, f, l, edge(), edge(), ones, noughts)
	}
}

// first: the error that holds of a store, a form, and a level up to so far behind the last one's.
func first(s *store.Store, f api.Form, l, behind int) api.Err {
	switch {
	case s == nil:
		return api.Nil
	case f < 1 || f > 5:
		return api.Shape
	case l < 0 || l >= s.Vars()+behind:
		return api.Var
	}
	return api.OK
}

// twice: each call, held against the first error that holds, and told again.
func twice(t *testing.T, s *store.Store, f api.Form, l int, lo, hi api.Edge, ones, noughts uint16) {
	t.Helper()
	e, err := Make(s, f, l, lo, hi)
	if again, same := Make(s, f, l, lo, hi); again != e || same != err || err != api.OK && e != nothing {
		t.Fatalf("Make(%d, %d, %v, %v): %v, %v, then %v, %v", f, l, lo, hi, e, err, again, same)
	}
	if want := first(s, f, l, 0); want != api.OK && err != want {
		t.Fatalf("Make(%d, %d, %v, %v): %v, wanted %v", f, l, lo, hi, err, want)
	}
	a, b, err := View(s, f, lo, l)
	if c, d, same := View(s, f, lo, l); a != c || b != d || err != same || err != api.OK && (a != nothing || b != nothing) {
		t.Fatalf("View(%d, %v, %d): %v, %v, %v, then %v, %v, %v", f, lo, l, a, b, err, c, d, same)
	}
	size := s.Len()
	want := first(s, f, l, 1)
	if want == api.OK && !s.Leads(f, lo, l) {
		want = api.Arg
	}
	in, err := Holds(s, f, lo, l, ones)
	if again, same := Holds(s, f, lo, l, ones); again != in || same != err || err != want || err != api.OK && in {
		t.Fatalf("Holds(%d, %v, %d, %b): %v, %v, wanted %v", f, lo, l, ones, in, err, want)
	}
	n, err := Size(s, f, lo, l)
	if again, same := Size(s, f, lo, l); again != n || same != err || err != want || err != api.OK && n != 0 {
		t.Fatalf("Size(%d, %v, %d): %d, %v, wanted %v", f, lo, l, n, err, want)
	}
	if Right(s, f, lo, l) && want != api.OK || s.Len() != size {
		t.Fatalf("Right(%d, %v, %d), %d nodes, were %d", f, lo, l, s.Len(), size)
	}
	cubeTwice(t, s, f, l, ones, noughts)
}

// cubeTwice: likewise, of Cube.
func cubeTwice(t *testing.T, s *store.Store, f api.Form, l int, ones, noughts uint16) {
	t.Helper()
	want := first(s, f, l, 1)
	if want == api.OK && (ones|noughts)&others(l, s.Vars()) != 0 {
		want = api.Var
	}
	if want == api.OK && ones&noughts != 0 {
		want = api.Arg
	}
	size := s.Len()
	e, err := Cube(s, f, l, ones, noughts)
	if want != api.OK && (err != want || s.Len() != size) || want == api.OK && err != api.OK && err != api.Full {
		t.Fatalf("Cube(%d, %d, %b, %b): %v, %v, wanted %v", f, l, ones, noughts, e, err, want)
	}
	if again, same := Cube(s, f, l, ones, noughts); again != e || same != err || err != api.OK && e != nothing {
		t.Fatalf("Cube(%d, %d, %b, %b): %v, %v, then %v, %v", f, l, ones, noughts, e, err, again, same)
	}
}
