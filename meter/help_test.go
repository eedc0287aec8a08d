package meter

import (
	"math/big"
	"math/bits"
	"math/rand"
	"slices"
	"strings"
	"testing"

	"ramage/api"
	"ramage/canon"
	"ramage/node"
	"ramage/order"
	"ramage/store"
)

const greatest = 1<<64 - 1

var nothing = api.Edge{}

var forms = []api.Form{api.BDD, api.ZDD, api.CBDD, api.CZDD, api.TBDD}

// at: an edge with a tag.
func at(tag int, id uint32) api.Edge { return api.Edge{Tag: uint8(tag), At: id} }

// tagged: an edge of a form to an id, that may stand at a level from 0 to the one that is told; of a TBDD that is its tag.
func tagged(f api.Form, id uint32, tag int) api.Edge {
	if f == api.TBDD {
		return at(tag, id)
	}
	return at(0, id)
}

// made: a store.
func made(t *testing.T, n, room int) *store.Store {
	t.Helper()
	s, err := store.New(n, room)
	if err != api.OK || s == nil {
		t.Fatalf("store.New(%d, %d): %v", n, room, err)
	}
	return s
}

// found: the id of the node of a record that may be.
func found(t *testing.T, s *store.Store, r api.Record) uint32 {
	t.Helper()
	id, err := s.Find(r)
	if err != api.OK {
		t.Fatalf("Find(%v): %v", r, err)
	}
	return id
}

// zeros: so many.
func zeros(size int) string { return strings.Repeat("0", size) }

// ones: likewise.
func ones(size int) string { return strings.Repeat("1", size) }

// padded: a table as the first ones of a greater table, whose others are 0.
func padded(table string, size int) string { return table + zeros(size-len(table)) }

// meaning: what an edge means, as the Words of its form's chapter tell it: a text of 0 and 1, one of these for each assignment of the levels from l on, the level l as its highest bit.
func meaning(s *store.Store, f api.Form, e api.Edge, l int) string {
	size := 1 << (s.Vars() - l)
	if e.At == 0 {
		return zeros(size)
	}
	part := "1"
	if e.At > 1 {
		r, _ := s.Get(e.At)
		part = meaningOfNode(s, r)
	}
	switch f {
	case api.BDD, api.CBDD:
		return strings.Repeat(part, size/len(part))
	case api.ZDD, api.CZDD:
		return padded(part, size)
	}
	below := 1 << (s.Vars() - int(e.Tag))
	return strings.Repeat(padded(part, below), size/below)
}

// meaningOfNode: likewise, at its Top.
func meaningOfNode(s *store.Store, r api.Record) string {
	below := int(r.Bot) + 1
	lo, hi := meaning(s, r.Form, r.Lo, below), meaning(s, r.Form, r.Hi, below)
	rows := 1 << (below - int(r.Top))
	if r.Form == api.CBDD {
		return lo + strings.Repeat(hi, rows-1)
	}
	return strings.Repeat(lo+hi, rows/2)
}

// table of a number's lowest bits.
func table(x uint64, size int) string {
	b := make([]byte, size)
	for i := range b {
		b[i] = '0' + byte(x>>i&1)
	}
	return string(b)
}

// draw a table of so many variables: some even, some sparse, some dense, some made of few parts, some in which variables play no part, some in which they are 0.
func draw(r *rand.Rand, n int) string {
	kind := r.Intn(8)
	if kind == 3 && n > 2 {
		parts := []string{draw(r, n-2), draw(r, n-2), zeros(1 << (n - 2))}
		var b strings.Builder
		for range 4 {
			b.WriteString(parts[r.Intn(3)])
		}
		return b.String()
	}
	if kind == 4 && n > 0 {
		length := 1 + r.Intn(n)
		return strings.Repeat(draw(r, n-length), 1<<length)
	}
	if kind > 4 && kind < 7 && n > 0 {
		return padded(draw(r, n-1-r.Intn((n+1)/2)), 1<<n)
	}
	if kind == 7 && n > 0 {
		return draw(r, n-1) + ones(1<<(n-1))
	}
	limit := []int{4, 1, 7, 4, 4, 4, 4, 4}[kind]
	b := make([]byte, 1<<n)
	for i := range b {
		b[i] = '0'
		if r.Intn(8) < limit {
			b[i] = '1'
		}
	}
	return string(b)
}

// long: diagrams of few nodes, in which chains and tags play a part, of n levels: tables.
func long(n int) []string {
	size := 1 << n
	return []string{
		zeros(size),
		ones(size),
		padded("1", size),                      // noughts alone
		"0" + ones(size-1),                     // some 1
		zeros(size-1) + "1",                    // all ones
		strings.Repeat("01", size/2),           // the last level
		zeros(size/2) + ones(size/2),           // the first one
		padded(ones(1<<(n/2)), size),           // free below, 0 above
		strings.Repeat(padded("1", 8), size/8), // 0 below, free above
		strings.Repeat(zeros(1<<(n-3))+ones(1<<(n-3)), 4),
	}
}

// right: the right edge of a table at the level 0.
func right(t *testing.T, s *store.Store, f api.Form, byLevels string) api.Edge {
	t.Helper()
	edges := map[string]api.Edge{"0": nothing, "1": node.One(f, s.Vars())}
	var of func(table string, l int) api.Edge
	of = func(table string, l int) api.Edge {
		if e, ok := edges[table]; ok {
			return e
		}
		half := len(table) / 2
		lo, hi := of(table[:half], l+1), of(table[half:], l+1)
		e, err := canon.Make(s, f, l, lo, hi)
		if err != api.OK {
			t.Fatalf("canon.Make: %v", err)
		}
		edges[table] = e
		return e
	}
	return of(byLevels, 0)
}

// records of all nodes, by ids.
func records(s *store.Store) map[uint32]api.Record {
	all := map[uint32]api.Record{}
	for id := range s.Ids() {
		r, _ := s.Get(id)
		all[id] = r
	}
	return all
}

// sameNodes: has a store just these nodes?
func sameNodes(t *testing.T, s *store.Store, want map[uint32]api.Record) {
	t.Helper()
	if s.Len() != len(want) {
		t.Fatalf("%d nodes, wanted %d", s.Len(), len(want))
	}
	stillThere(t, s, want)
}

// stillThere: has a store these nodes, whatever others it has?
func stillThere(t *testing.T, s *store.Store, want map[uint32]api.Record) {
	t.Helper()
	for id, r := range want {
		if now, ok := s.Get(id); !ok || now != r {
			t.Fatalf("node %d is %v, wanted %v", id, now, r)
		}
	}
}

// leading: all edges of a form that lead at a level.
func leading(s *store.Store, f api.Form, l int) []api.Edge {
	list := []api.Edge{nothing}
	for id := range uint32(s.Len() + 2) {
		for tag := range s.Vars() + 1 {
			if id > 0 && s.Leads(f, at(tag, id), l) {
				list = append(list, at(tag, id))
			}
		}
	}
	return list
}

// everything: all nodes of all forms that may be of n variables, right and cut ones, in a store with room for some more.
func everything(t *testing.T, n, more int) *store.Store {
	t.Helper()
	s := made(t, n, []int{0, 10, 82, 1958}[n]+more)
	for bot := n - 1; bot >= 0; bot-- {
		for _, f := range forms {
			below := leading(s, f, bot+1)
			for _, lo := range below {
				for _, hi := range below {
					for top := bot; top >= 0; top-- {
						r := api.Record{Form: f, Top: uint8(top), Bot: uint8(bot), Lo: lo, Hi: hi}
						if node.Right(r, n) {
							found(t, s, r)
						}
					}
				}
			}
		}
	}
	if s.Len() != s.Room()-more {
		t.Fatalf("%d nodes, wanted %d", s.Len(), s.Room()-more)
	}
	return s
}

// mixed: all forms in one store of 4 variables, right and cut diagrams side by side, with room for some more nodes.
func mixed(t *testing.T, more int) *store.Store {
	t.Helper()
	s := made(t, 4, 20+more)
	one := at(0, 1)
	for _, f := range forms {
		low := found(t, s, api.Record{Form: f, Top: 3, Bot: 3, Hi: tagged(f, 1, 4)})
		middle := found(t, s, api.Record{Form: f, Top: 1, Bot: 1, Lo: tagged(f, low, 2), Hi: tagged(f, 1, 2)})
		found(t, s, api.Record{Form: f, Top: 0, Bot: 0, Lo: tagged(f, middle, 1), Hi: tagged(f, low, 3)})
	}
	// Chains of three levels, and ones that are cut in two.
	any3 := found(t, s, api.Record{Form: api.CBDD, Top: 1, Bot: 3, Hi: one})
	found(t, s, api.Record{Form: api.CBDD, Top: 0, Bot: 0, Lo: at(0, any3), Hi: one})
	free3 := found(t, s, api.Record{Form: api.CZDD, Top: 1, Bot: 3, Hi: one})
	found(t, s, api.Record{Form: api.CZDD, Top: 0, Bot: 0, Lo: at(0, free3), Hi: at(0, free3)})
	// A node that a tag alone would tell.
	low, _ := s.Has(api.Record{Form: api.TBDD, Top: 3, Bot: 3, Hi: at(4, 1)})
	found(t, s, api.Record{Form: api.TBDD, Top: 2, Bot: 2, Lo: at(3, low)})
	if s.Len() != 20 {
		t.Fatalf("%d nodes", s.Len())
	}
	return s
}

// cut: a drawn edge of n levels at the level 0 of a form, whose records are any that may be: chains cut anywhere, nodes that tags alone would tell.
func cut(t *testing.T, r *rand.Rand, s *store.Store, f api.Form, count int) api.Edge {
	t.Helper()
	n := s.Vars()
	list := []api.Edge{nothing, tagged(f, 1, n)}
	for range count {
		lo, hi := list[r.Intn(len(list))], list[r.Intn(len(list))]
		if r.Intn(3) == 0 {
			hi = lo
		}
		bot := min(s.Top(lo), s.Top(hi)) - 1
		top := bot
		if node.Chained(f) {
			top -= r.Intn(3)
		}
		rec := api.Record{Form: f, Top: uint8(top), Bot: uint8(bot), Lo: lowered(r, f, lo, bot+1, s), Hi: lowered(r, f, hi, bot+1, s)}
		if top >= 0 && node.Right(rec, n) {
			list = append(list, tagged(f, found(t, s, rec), top))
		}
	}
	return lowered(r, f, list[len(list)-1], 0, s)
}

// lowered: an edge as it may stand at a level: of a TBDD with any tag that it may have there.
func lowered(r *rand.Rand, f api.Form, e api.Edge, l int, s *store.Store) api.Edge {
	if f == api.TBDD && e != nothing {
		e.Tag = uint8(l + r.Intn(s.Top(e)-l+1))
	}
	return e
}

// levelsOf a table: how many.
func levelsOf(table string) int { return bits.Len(uint(len(table))) - 1 }

// noForms: what is no form.
func noForms() []api.Form {
	list := []api.Form{0}
	for f := 6; f < 256; f++ {
		list = append(list, api.Form(f))
	}
	return list
}

// ordered: the order of variables by levels.
func ordered(t *testing.T, p ...int) *order.Order {
	t.Helper()
	o, err := order.Of(p)
	if err != api.OK {
		t.Fatalf("order.Of(%v): %v", p, err)
	}
	return o
}

// inOrder: the order in which each variable has its own level.
func inOrder(t *testing.T, n int) *order.Order {
	t.Helper()
	p := make([]int, n)
	for v := range p {
		p[v] = v
	}
	return ordered(t, p...)
}

// orders of n variables: all.
func orders(t *testing.T, n int) []*order.Order {
	t.Helper()
	lists := [][]int{{}}
	for v := range n {
		var longer [][]int
		for _, p := range lists {
			for i := range len(p) + 1 {
				longer = append(longer, slices.Insert(slices.Clone(p), i, v))
			}
		}
		lists = longer
	}
	var all []*order.Order
	for _, p := range lists {
		all = append(all, ordered(t, p...))
	}
	return all
}

// byVariables: a table of an assignment each, by levels, as one by variables.
func byVariables(o *order.Order, byLevels string) string {
	b, p := make([]byte, len(byLevels)), o.Perm()
	for x := range b {
		b[x] = byLevels[placed(p, x)]
	}
	return string(b)
}

// placed: an assignment by levels, the level 0 as the highest bit, of variables by levels.
func placed(p []int, x int) int {
	place := 0
	for _, v := range p {
		place = place*2 + x>>v&1
	}
	return place
}

// byLevelsOf: back.
func byLevelsOf(o *order.Order, byVars string) string {
	b, p := make([]byte, len(byVars)), o.Perm()
	for x := range b {
		b[placed(p, x)] = byVars[x]
	}
	return string(b)
}

// setOf a table by variables.
func setOf(byVars string) api.Set {
	n := 0
	for 1<<n < len(byVars) {
		n++
	}
	words := make([]uint64, max(1, len(byVars)/64))
	for x := range len(byVars) {
		words[x/64] |= uint64(byVars[x]-'0') << (x % 64)
	}
	return api.Set{Vars: n, Words: words}
}

// tableOf a set, by variables.
func tableOf(t api.Set) string {
	b := make([]byte, 1<<t.Vars)
	for x := range b {
		b[x] = '0' + byte(t.Words[x/64]>>(x%64)&1)
	}
	return string(b)
}

// drawnOrder of n variables.
func drawnOrder(t *testing.T, r *rand.Rand, n int) *order.Order {
	t.Helper()
	return ordered(t, r.Perm(n)...)
}

// split a table in its halves.
func split(part string) (lo, hi string) {
	return part[:len(part)/2], part[len(part)/2:]
}

// isFree: plays a table's topmost level no part?
func isFree(part string) bool {
	lo, hi := split(part)
	return len(part) > 1 && lo == hi
}

// isNought: are the assignments 0 at a table's topmost level?
func isNought(part string) bool {
	_, hi := split(part)
	return len(part) > 1 && hi == zeros(len(hi))
}

// leftOut: the table that is left of one that isn't all 0, where an edge of a form leaves out what it can.
func leftOut(f api.Form, part string) string {
	for f != api.ZDD && f != api.CZDD && isFree(part) {
		part, _ = split(part)
	}
	for f == api.ZDD || f == api.CZDD || f == api.TBDD {
		lo, _ := split(part)
		// Behind a level that is 0 the tag of a TBDD can't tell of one that plays no part.
		if !isNought(part) || f == api.TBDD && isFree(lo) {
			break
		}
		part = lo
	}
	return part
}

// halvesOf the node of a table that no edge leaves out: below the last level of its chain.
func halvesOf(f api.Form, part string) (lo, hi string) {
	lo, hi = split(part)
	for len(lo) > 1 {
		low, high := split(lo)
		// The same node goes on as a chain of a CBDD if lo asks for its topmost level, and leads to hi from there.
		if f == api.CBDD && low != high && hi == high+high {
			lo, hi = low, high
			continue
		}
		if f == api.CZDD && lo == hi && !isNought(lo) {
			lo, hi = low, high
			continue
		}
		break
	}
	return lo, hi
}

// nodesOf a table's diagram: how many it needs.
func nodesOf(f api.Form, table string) int {
	seen := map[string]bool{}
	var walk func(part string)
	walk = func(part string) {
		if part == zeros(len(part)) {
			return
		}
		part = leftOut(f, part)
		if len(part) == 1 || seen[part] {
			return
		}
		seen[part] = true
		lo, hi := halvesOf(f, part)
		walk(lo)
		walk(hi)
	}
	walk(table)
	return len(seen)
}

// weights of the levels, at random: small ones, great ones, 0 and 1.
func weights(r *rand.Rand, n int) []uint64 {
	list := make([]uint64, n)
	for k := range list {
		list[k] = []uint64{0, 1, 2, greatest, 1 << 63, uint64(r.Intn(100)), r.Uint64(), r.Uint64()}[r.Intn(8)]
	}
	return list
}

// number: as a list of words, the lowest first.
func number(x *big.Int) []uint64 {
	var words []uint64
	low := new(big.Int).SetUint64(greatest)
	for left := new(big.Int).Set(x); left.Sign() > 0; left.Rsh(left, 64) {
		words = append(words, new(big.Int).And(left, low).Uint64())
	}
	return words
}

// weighed: what the assignments of a table by levels weigh, one by one.
func weighed(table string, lo, hi []uint64) []uint64 {
	each := []*big.Int{big.NewInt(1)}
	for k := range lo {
		var longer []*big.Int
		for _, w := range each {
			longer = append(longer, new(big.Int).Mul(w, new(big.Int).SetUint64(lo[k])), new(big.Int).Mul(w, new(big.Int).SetUint64(hi[k])))
		}
		each = longer
	}
	sum := new(big.Int)
	for x := range table {
		if table[x] == '1' {
			sum.Add(sum, each[x])
		}
	}
	return number(sum)
}

// onesOf a table: how many assignments have so many 1s.
func onesOf(table string) []int {
	counts := make([]int, levelsOf(table)+1)
	for x := range table {
		if table[x] == '1' {
			counts[bits.OnesCount(uint(x))]++
		}
	}
	return counts
}

// way from an edge to nothing or one: its nodes, and where it ends.
type way struct {
	nodes []uint32
	end   uint32
}

// waysFrom an edge.
func waysFrom(s *store.Store, e api.Edge) []way {
	r, ok := s.Get(e.At)
	if !ok {
		return []way{{end: e.At}}
	}
	var list []way
	for _, next := range []api.Edge{r.Lo, r.Hi} {
		for _, w := range waysFrom(s, next) {
			list = append(list, way{nodes: append([]uint32{e.At}, w.nodes...), end: w.end})
		}
	}
	return list
}

// measured: of an edge what Profile, Depth and Ways are to tell, way by way.
func measured(s *store.Store, e api.Edge) (profile []int, depth, ways int) {
	seen := map[uint32]bool{}
	profile = make([]int, s.Vars())
	for _, w := range waysFrom(s, e) {
		depth = max(depth, len(w.nodes))
		ways += int(w.end)
		for _, id := range w.nodes {
			if !seen[id] {
				seen[id] = true
				r, _ := s.Get(id)
				profile[r.Top]++
			}
		}
	}
	return profile, depth, ways
}

// weighs: Weigh, where it must tell this; without a change of its lists.
func weighs(t *testing.T, s *store.Store, f api.Form, e api.Edge, lo, hi, want []uint64) {
	t.Helper()
	oldLo, oldHi := slices.Clone(lo), slices.Clone(hi)
	got, err := Weigh(s, f, e, lo, hi)
	if err != api.OK || !slices.Equal(got, want) {
		t.Fatalf("Weigh(%d, %v, %v, %v): %v, %v, wanted %v", f, e, lo, hi, got, err, want)
	}
	if !slices.Equal(lo, oldLo) || !slices.Equal(hi, oldHi) {
		t.Fatalf("Weigh(%d, %v): lists changed", f, e)
	}
}

// counts: Count, likewise.
func counts(t *testing.T, s *store.Store, f api.Form, e api.Edge, want int) {
	t.Helper()
	got, err := Count(s, f, e)
	if err != api.OK || !slices.Equal(got, number(big.NewInt(int64(want)))) {
		t.Fatalf("Count(%d, %v): %v, %v, wanted %d", f, e, got, err, want)
	}
}

// haveOnes: Ones, likewise.
func haveOnes(t *testing.T, s *store.Store, f api.Form, e api.Edge, want ...int) {
	t.Helper()
	got, err := Ones(s, f, e)
	if err != api.OK || len(got) != s.Vars()+1 || !slices.Equal(got, want) {
		t.Fatalf("Ones(%d, %v): %v, %v, wanted %v", f, e, got, err, want)
	}
}

// hasNodes: Profile, Depth and Ways, likewise.
func hasNodes(t *testing.T, s *store.Store, f api.Form, e api.Edge, depth, ways int, profile ...int) {
	t.Helper()
	got, err := Profile(s, f, e)
	if err != api.OK || len(got) != s.Vars() || !slices.Equal(got, profile) {
		t.Fatalf("Profile(%d, %v): %v, %v, wanted %v", f, e, got, err, profile)
	}
	if got, err := Depth(s, f, e); err != api.OK || got != depth {
		t.Fatalf("Depth(%d, %v): %d, %v, wanted %d", f, e, got, err, depth)
	}
	if got, err := Ways(s, f, e); err != api.OK || got != ways {
		t.Fatalf("Ways(%d, %v): %d, %v, wanted %d", f, e, got, err, ways)
	}
}

// asTable: what is weighed and counted of an edge, held against a table by levels.
func asTable(t *testing.T, s *store.Store, f api.Form, e api.Edge, byLevels string, lo, hi []uint64) {
	t.Helper()
	weighs(t, s, f, e, lo, hi, weighed(byLevels, lo, hi))
	counts(t, s, f, e, strings.Count(byLevels, "1"))
	haveOnes(t, s, f, e, onesOf(byLevels)...)
}

// asNodes: Profile, Depth and Ways of an edge, held against the nodes, way by way.
func asNodes(t *testing.T, s *store.Store, f api.Form, e api.Edge) {
	t.Helper()
	profile, depth, ways := measured(s, e)
	hasNodes(t, s, f, e, depth, ways, profile...)
}

// sized: Sizes, where it must tell this.
func sized(t *testing.T, o *order.Order, set api.Set, want ...int) {
	t.Helper()
	old := slices.Clone(set.Words)
	p := o.Perm()
	got, err := Sizes(o, set)
	if err != api.OK || !slices.Equal(got, want) {
		t.Fatalf("Sizes(%v, %v): %v, %v, wanted %v", p, set, got, err, want)
	}
	if !slices.Equal(set.Words, old) || !slices.Equal(o.Perm(), p) {
		t.Fatalf("Sizes(%v, %v): order or set changed", p, set)
	}
}

// noMeasure: all that is told of an edge, where it must be one error, and nothing beside it.
func noMeasure(t *testing.T, s *store.Store, f api.Form, e api.Edge, want api.Err) {
	t.Helper()
	size := s.Len()
	each := make([]uint64, s.Vars())
	for _, list := range [][]uint64{each, nil, make([]uint64, s.Vars()+1)} {
		noWeight(t, s, f, e, list, each, want)
		noWeight(t, s, f, e, each, list, want)
	}
	if got, err := Count(s, f, e); len(got) != 0 || err != want {
		t.Fatalf("Count(%d, %v): %v, %v, wanted %v", f, e, got, err, want)
	}
	if got, err := Ones(s, f, e); len(got) != 0 || err != want {
		t.Fatalf("Ones(%d, %v): %v, %v, wanted %v", f, e, got, err, want)
	}
	if got, err := Profile(s, f, e); len(got) != 0 || err != want {
		t.Fatalf("Profile(%d, %v): %v, %v, wanted %v", f, e, got, err, want)
	}
	if got, err := Depth(s, f, e); got != 0 || err != want {
		t.Fatalf("Depth(%d, %v): %v, %v, wanted %v", f, e, got, err, want)
	}
	if got, err := Ways(s, f, e); got != 0 || err != want {
		t.Fatalf("Ways(%d, %v): %v, %v, wanted %v", f, e, got, err, want)
	}
	if s.Len() != size {
		t.Fatalf("%d nodes, were %d", s.Len(), size)
	}
}

// noWeight: Weigh, likewise.
func noWeight(t *testing.T, s *store.Store, f api.Form, e api.Edge, lo, hi []uint64, want api.Err) {
	t.Helper()
	if got, err := Weigh(s, f, e, lo, hi); len(got) != 0 || err != want {
		t.Fatalf("Weigh(%d, %v, %v, %v): %v, %v, wanted %v", f, e, lo, hi, got, err, want)
	}
}

// noSizes: Sizes, likewise.
func noSizes(t *testing.T, o *order.Order, set api.Set, want api.Err) {
	t.Helper()
	if got, err := Sizes(o, set); len(got) != 0 || err != want {
		t.Fatalf("Sizes(%v, %v): %v, %v, wanted %v", o.Perm(), set, got, err, want)
	}
}
