package store

import (
	"math"
	"math/rand"
	"reflect"
	"slices"
	"testing"

	"ramage/api"
)

// five: the forms.
var five = []api.Form{api.BDD, api.ZDD, api.CBDD, api.CZDD, api.TBDD}

// forms: the five, and some others.
func forms() []api.Form {
	return append([]api.Form{0, 6, 7, 128, 255}, five...)
}

// wrongCounts: numbers of variables that can't be, those just outside first.
func wrongCounts() []int {
	return []int{-1, 17, -2, 18, 255, 256, 1 << 32, 1<<32 + 4, -1 << 32, math.MaxInt, math.MaxInt - 1, math.MinInt, math.MinInt + 1}
}

// wrongRooms: likewise of room.
func wrongRooms() []int {
	return []int{-1, 1<<20 + 1, -2, 1<<20 + 2, 1 << 21, 1 << 32, 1<<32 + 1, -1 << 32, math.MaxInt, math.MaxInt - 1, math.MinInt, math.MinInt + 1}
}

// levels of n variables, and numbers that are none.
func levels(n int) []int {
	l := []int{-1, -2, n + 1, n + 2, 17, 255, 256, 256 + n, 1 << 32, 1<<32 + n, -1 << 32, math.MaxInt, math.MaxInt - 1, math.MinInt, math.MinInt + 1, math.MinInt + n}
	for i := range n + 1 {
		l = append(l, i)
	}
	return l
}

// at: an edge without a tag.
func at(id uint32) api.Edge { return api.Edge{At: id} }

// tagged: an edge with a tag.
func tagged(id uint32, tag uint8) api.Edge { return api.Edge{At: id, Tag: tag} }

// record of its parts.
func record(f api.Form, top, bot uint8, lo, hi api.Edge) api.Record {
	return api.Record{Form: f, Top: top, Bot: bot, Lo: lo, Hi: hi}
}

// edges of these ids.
func edges(ids ...uint32) []api.Edge {
	var l []api.Edge
	for _, id := range ids {
		l = append(l, at(id))
	}
	return l
}

// made: a store.
func made(t *testing.T, n, room int) *Store {
	t.Helper()
	s, err := New(n, room)
	if err != api.OK || s == nil {
		t.Fatalf("New(%d, %d): %v", n, room, err)
	}
	return s
}

// found: the id of a record that is right.
func found(t *testing.T, s *Store, r api.Record) uint32 {
	t.Helper()
	id, err := s.Find(r)
	if err != api.OK || id < 2 {
		t.Fatalf("Find(%v): %d, %v", r, id, err)
	}
	return id
}

// model is a store as the Words of the chapters tell it, without anything that makes it fast.
type model struct {
	n, room int
	nodes   map[uint32]api.Record
	given   []uint32 // dropped and not given again, the last one last
	least   uint32   // that was never given
}

func newModel(n, room int) *model {
	return &model{n: n, room: room, nodes: map[uint32]api.Record{}, least: 2}
}

// plain: layer 10's Words.
func (m *model) plain(f api.Form, e api.Edge, l int) bool {
	if f < 1 || f > 5 || l < 0 || l > m.n {
		return false
	}
	if f == api.TBDD && e.At != 0 {
		return l <= int(e.Tag) && int(e.Tag) <= m.n
	}
	return e.Tag == 0
}

// leads: this chapter's Words.
func (m *model) leads(f api.Form, e api.Edge, l int) bool {
	if !m.plain(f, e, l) {
		return false
	}
	if e.At == 0 || e.At == 1 {
		return true
	}
	r, ok := m.nodes[e.At]
	if !ok || r.Form != f || int(r.Top) < l {
		return false
	}
	return f != api.TBDD || e.Tag <= r.Top
}

func (m *model) top(e api.Edge) int {
	if e.At <= 1 {
		return m.n
	}
	if r, ok := m.nodes[e.At]; ok {
		return int(r.Top)
	}
	return -1
}

// right: layer 10's Words.
func (m *model) right(r api.Record) bool {
	f := r.Form
	chained := f == api.CBDD || f == api.CZDD
	if f < 1 || f > 5 || r.Top > r.Bot || int(r.Bot) >= m.n || r.Top != r.Bot && !chained {
		return false
	}
	if !m.plain(f, r.Lo, int(r.Bot)+1) || !m.plain(f, r.Hi, int(r.Bot)+1) {
		return false
	}
	if f == api.ZDD || f == api.CZDD {
		return r.Hi.At != 0
	}
	return r.Lo != r.Hi
}

func (m *model) has(r api.Record) (uint32, bool) {
	for id, x := range m.nodes {
		if x == r {
			return id, true
		}
	}
	return 0, false
}

func (m *model) find(r api.Record) (uint32, api.Err) {
	if !m.right(r) || !m.leads(r.Form, r.Lo, int(r.Bot)+1) || !m.leads(r.Form, r.Hi, int(r.Bot)+1) {
		return 0, api.Arg
	}
	if id, ok := m.has(r); ok {
		return id, api.OK
	}
	if len(m.nodes) == m.room {
		return 0, api.Full
	}
	id := m.least
	if last := len(m.given) - 1; last >= 0 {
		id = m.given[last]
		m.given = m.given[:last]
	} else {
		m.least++
	}
	m.nodes[id] = r
	return id, api.OK
}

func (m *model) ids() []uint32 {
	var l []uint32
	for id := range m.nodes {
		l = append(l, id)
	}
	slices.Sort(l)
	return l
}

// reach: nodes are added as long as one of them has an edge to another one.
func (m *model) reach(l []api.Edge) []uint32 {
	in := map[uint32]bool{}
	for _, e := range l {
		in[e.At] = true
	}
	for range 17 {
		for id, r := range m.nodes {
			if in[id] {
				in[r.Lo.At], in[r.Hi.At] = true, true
			}
		}
	}
	var ids []uint32
	for _, id := range m.ids() {
		if in[id] {
			ids = append(ids, id)
		}
	}
	return ids
}

func (m *model) sweep(l []api.Edge) int {
	stays := m.reach(l)
	gone := 0
	for _, id := range m.ids() {
		if !slices.Contains(stays, id) {
			delete(m.nodes, id)
			m.given = append(m.given, id)
			gone++
		}
	}
	return gone
}

// checkAgainst: does the store have just the model's nodes?
func checkAgainst(t *testing.T, s *Store, m *model) {
	t.Helper()
	if s.Vars() != m.n || s.Room() != m.room || s.Len() != len(m.nodes) {
		t.Fatalf("Vars %d, Room %d, Len %d, wanted %d, %d, %d", s.Vars(), s.Room(), s.Len(), m.n, m.room, len(m.nodes))
	}
	ids := m.ids()
	if got := slices.Collect(s.Ids()); !slices.Equal(got, ids) {
		t.Fatalf("Ids: %v, wanted %v", got, ids)
	}
	for id := range m.least + 2 {
		want, there := m.nodes[id]
		if got, ok := s.Get(id); got != want || ok != there {
			t.Fatalf("Get(%d): %v, %v, wanted %v, %v", id, got, ok, want, there)
		}
		if top := s.Top(at(id)); top != m.top(at(id)) {
			t.Fatalf("Top(%d): %d, wanted %d", id, top, m.top(at(id)))
		}
	}
	checkStore(t, s)
}

// checkStore: P11.4.
func checkStore(t *testing.T, s *Store) {
	t.Helper()
	seen := map[api.Record]uint32{}
	count := 0
	for id := range s.Ids() {
		r, ok := s.Get(id)
		if !ok {
			t.Fatalf("Get(%d): false", id)
		}
		if old, twice := seen[r]; twice {
			t.Fatalf("%d and %d have one record: %v", old, id, r)
		}
		seen[r] = id
		if !s.Leads(r.Form, r.Lo, int(r.Bot)+1) || !s.Leads(r.Form, r.Hi, int(r.Bot)+1) {
			t.Fatalf("%d: %v doesn't lead", id, r)
		}
		if got, ok := s.Has(r); !ok || got != id {
			t.Fatalf("Has(%v): %d, %v, wanted %d", r, got, ok, id)
		}
		if top := s.Top(at(id)); top != int(r.Top) {
			t.Fatalf("Top(%d): %d, wanted %d", id, top, r.Top)
		}
		count++
	}
	if s.Len() != count || count > s.Room() {
		t.Fatalf("Len %d, Room %d, but there are %d", s.Len(), s.Room(), count)
	}
}

func TestNew(t *testing.T) { // P11.1: each n, room at its ends
	for n := range api.MaxVars + 1 {
		for _, room := range []int{0, 1, 2, 3, 1000, api.MaxRoom - 1, api.MaxRoom} {
			s := made(t, n, room)
			if s.Vars() != n || s.Room() != room || s.Len() != 0 {
				t.Errorf("New(%d, %d): %d variables, room %d, %d nodes", n, room, s.Vars(), s.Room(), s.Len())
			}
			checkAgainst(t, s, newModel(n, room))
		}
	}
}

func TestNewOfWrong(t *testing.T) { // P11.1: Var ahead of Arg, and no store
	for _, n := range wrongCounts() {
		for _, room := range append([]int{0, 1, api.MaxRoom}, wrongRooms()...) {
			if s, err := New(n, room); s != nil || err != api.Var {
				t.Errorf("New(%d, %d): %v, %v", n, room, s, err)
			}
		}
	}
	for _, room := range wrongRooms() {
		for n := range api.MaxVars + 1 {
			if s, err := New(n, room); s != nil || err != api.Arg {
				t.Errorf("New(%d, %d): %v, %v", n, room, s, err)
			}
		}
	}
}

func TestExample(t *testing.T) { // P11.2: the chapter's
	s := made(t, 1, 5)
	for range 2 {
		if id, err := s.Find(record(api.BDD, 0, 0, at(0), at(1))); id != 2 || err != api.OK {
			t.Errorf("Find: %d, %v", id, err)
		}
	}
	if s.Len() != 1 {
		t.Errorf("Len: %d", s.Len())
	}
}

// mixed: nodes of all forms side by side, of 6 variables; each record's edges lead to those ahead of it.
func mixed() []api.Record {
	return []api.Record{
		record(api.BDD, 5, 5, at(0), at(1)),
		record(api.ZDD, 5, 5, at(0), at(1)),
		record(api.CBDD, 5, 5, at(0), at(1)),
		record(api.CZDD, 5, 5, at(0), at(1)),
		record(api.TBDD, 5, 5, at(0), tagged(1, 6)),
		record(api.BDD, 3, 3, at(2), at(1)),
		record(api.ZDD, 3, 3, at(3), at(3)),
		record(api.CBDD, 1, 3, at(4), at(1)),
		record(api.CZDD, 2, 3, at(5), at(5)),
		record(api.TBDD, 3, 3, tagged(6, 4), tagged(6, 5)),
		record(api.CBDD, 0, 0, at(9), at(4)),
		record(api.CZDD, 0, 1, at(1), at(10)),
		record(api.TBDD, 2, 2, tagged(11, 3), tagged(1, 4)),
		record(api.BDD, 0, 0, at(7), at(2)),
		record(api.ZDD, 1, 1, at(1), at(8)),
		record(api.TBDD, 0, 0, tagged(14, 2), tagged(6, 1)),
		record(api.CBDD, 4, 5, at(1), at(0)),
		record(api.CZDD, 3, 5, at(0), at(1)),
	}
}

// mixedStore: those in a store, and in a model, with room for some more.
func mixedStore(t *testing.T, more int) (*Store, *model) {
	t.Helper()
	l := mixed()
	s, m := made(t, 6, len(l)+more), newModel(6, len(l)+more)
	for i, r := range l {
		want, err := m.find(r)
		if err != api.OK || want != uint32(2+i) {
			t.Fatalf("the model: %v: %d, %v", r, want, err)
		}
		if id := found(t, s, r); id != want {
			t.Fatalf("Find(%v): %d, wanted %d", r, id, want)
		}
	}
	return s, m
}

func TestFind(t *testing.T) { // P11.2: all forms side by side; what is there is found again, and makes no node
	s, m := mixedStore(t, 3)
	checkAgainst(t, s, m)
	for range 2 {
		for i, r := range mixed() {
			if id := found(t, s, r); id != uint32(2+i) {
				t.Errorf("Find(%v): %d, wanted %d", r, id, 2+i)
			}
			if id, ok := s.Has(r); !ok || id != uint32(2+i) {
				t.Errorf("Has(%v): %d, %v, wanted %d", r, id, ok, 2+i)
			}
		}
	}
	checkAgainst(t, s, m)
}

func TestFindOfUnlikeOnes(t *testing.T) { // P11.2: records that differ in one part alone have nodes of their own
	s := made(t, 8, 100)
	b, c := found(t, s, record(api.BDD, 7, 7, at(0), at(1))), found(t, s, record(api.BDD, 6, 6, at(0), at(1)))
	k, q := found(t, s, record(api.CBDD, 7, 7, at(0), at(1))), found(t, s, record(api.CZDD, 7, 7, at(0), at(1)))
	x := found(t, s, record(api.TBDD, 7, 7, at(0), tagged(1, 8)))
	unlike := []api.Record{
		record(api.BDD, 3, 3, at(b), at(1)), record(api.BDD, 2, 2, at(b), at(1)), record(api.BDD, 3, 3, at(c), at(1)),
		record(api.BDD, 3, 3, at(b), at(0)), record(api.BDD, 3, 3, at(1), at(b)), record(api.BDD, 3, 3, at(0), at(1)),
		record(api.ZDD, 3, 3, at(0), at(1)), record(api.CBDD, 3, 3, at(0), at(1)), record(api.CZDD, 3, 3, at(0), at(1)),
		record(api.CBDD, 2, 3, at(k), at(1)), record(api.CBDD, 1, 3, at(k), at(1)), record(api.CBDD, 2, 4, at(k), at(1)),
		record(api.CZDD, 2, 3, at(q), at(1)), record(api.CZDD, 3, 3, at(q), at(1)), record(api.CZDD, 2, 2, at(q), at(1)),
		record(api.TBDD, 3, 3, tagged(x, 4), tagged(x, 5)), record(api.TBDD, 3, 3, tagged(x, 5), tagged(x, 4)),
		record(api.TBDD, 3, 3, tagged(x, 4), tagged(x, 6)), record(api.TBDD, 3, 3, tagged(x, 6), tagged(x, 5)),
		record(api.TBDD, 2, 2, tagged(x, 4), tagged(x, 5)), record(api.TBDD, 3, 3, tagged(1, 4), tagged(x, 5)),
	}
	for i, r := range unlike {
		if id, ok := s.Has(r); ok || id != 0 {
			t.Errorf("Has(%v): %d, %v", r, id, ok)
		}
		if id := found(t, s, r); id != uint32(7+i) {
			t.Errorf("Find(%v): %d, wanted %d", r, id, 7+i)
		}
	}
	checkStore(t, s)
}

// shorts: what each record falls short of, and the record; of 6 variables, behind mixed.
func shorts() map[string]api.Record {
	return map[string]api.Record{
		"no form":                    record(0, 3, 3, at(0), at(1)),
		"the form 6":                 record(6, 3, 3, at(0), at(1)),
		"the form 255":               record(255, 3, 3, at(0), at(1)),
		"bdd: Top above Bot":         record(api.BDD, 2, 3, at(2), at(1)),
		"zdd: Top above Bot":         record(api.ZDD, 2, 3, at(3), at(1)),
		"tbdd: Top above Bot":        record(api.TBDD, 2, 3, tagged(6, 4), tagged(1, 6)),
		"cbdd: Top below Bot":        record(api.CBDD, 4, 3, at(4), at(1)),
		"czdd: Top below Bot":        record(api.CZDD, 4, 3, at(5), at(1)),
		"bdd: Bot is n":              record(api.BDD, 6, 6, at(0), at(1)),
		"cbdd: Bot is n":             record(api.CBDD, 0, 6, at(0), at(1)),
		"tbdd: Bot is n":             record(api.TBDD, 6, 6, at(0), tagged(1, 6)),
		"bdd: Bot is 255":            record(api.BDD, 255, 255, at(0), at(1)),
		"czdd: Bot is 255":           record(api.CZDD, 0, 255, at(0), at(1)),
		"bdd: alike":                 record(api.BDD, 3, 3, at(2), at(2)),
		"cbdd: alike":                record(api.CBDD, 3, 3, at(1), at(1)),
		"tbdd: alike":                record(api.TBDD, 3, 3, tagged(6, 4), tagged(6, 4)),
		"zdd: Hi to nothing":         record(api.ZDD, 3, 3, at(3), at(0)),
		"czdd: Hi to nothing":        record(api.CZDD, 2, 3, at(5), at(0)),
		"zdd: twice nothing":         record(api.ZDD, 3, 3, at(0), at(0)),
		"bdd: Lo has a tag":          record(api.BDD, 3, 3, tagged(2, 4), at(1)),
		"bdd: Hi has a tag":          record(api.BDD, 3, 3, at(2), tagged(1, 6)),
		"czdd: nothing has a tag":    record(api.CZDD, 3, 3, tagged(0, 4), at(1)),
		"tbdd: nothing has a tag":    record(api.TBDD, 3, 3, tagged(0, 4), tagged(1, 6)),
		"tbdd: one has no tag":       record(api.TBDD, 3, 3, at(0), at(1)),
		"tbdd: Tag at Bot":           record(api.TBDD, 3, 3, tagged(6, 3), tagged(1, 6)),
		"tbdd: Tag above n":          record(api.TBDD, 3, 3, at(0), tagged(1, 7)),
		"tbdd: Tag below the node":   record(api.TBDD, 3, 3, tagged(6, 6), tagged(1, 6)),
		"tbdd: Hi's, too":            record(api.TBDD, 1, 1, at(0), tagged(11, 4)),
		"bdd: Lo at its own level":   record(api.BDD, 3, 3, at(7), at(1)),
		"bdd: Lo above":              record(api.BDD, 4, 4, at(7), at(1)),
		"bdd: Hi at its own level":   record(api.BDD, 5, 5, at(0), at(2)),
		"zdd: Hi at its own level":   record(api.ZDD, 3, 3, at(0), at(8)),
		"cbdd: Lo within the chain":  record(api.CBDD, 3, 5, at(4), at(1)),
		"cbdd: Lo's Bot alone below": record(api.CBDD, 0, 2, at(9), at(1)),
		"czdd: Hi within the chain":  record(api.CZDD, 1, 5, at(0), at(5)),
		"czdd: Hi's Bot alone below": record(api.CZDD, 0, 2, at(1), at(10)),
		"tbdd: Lo at its own level":  record(api.TBDD, 3, 3, tagged(11, 4), tagged(1, 6)),
		"tbdd: Hi above":             record(api.TBDD, 4, 4, at(0), tagged(11, 5)),
		"bdd: Lo of a zdd":           record(api.BDD, 0, 0, at(3), at(1)),
		"bdd: Hi of a cbdd":          record(api.BDD, 0, 0, at(1), at(4)),
		"zdd: Hi of a bdd":           record(api.ZDD, 0, 0, at(0), at(2)),
		"zdd: Lo of a czdd":          record(api.ZDD, 0, 0, at(5), at(1)),
		"cbdd: Lo of a bdd":          record(api.CBDD, 0, 1, at(2), at(1)),
		"czdd: Hi of a zdd":          record(api.CZDD, 0, 1, at(2), at(3)),
		"tbdd: Hi of a bdd":          record(api.TBDD, 0, 0, at(0), tagged(2, 1)),
		"tbdd: Lo of a czdd":         record(api.TBDD, 0, 0, tagged(5, 1), tagged(1, 6)),
		"bdd: Lo to no node":         record(api.BDD, 0, 0, at(20), at(1)),
		"bdd: Hi to no node":         record(api.BDD, 0, 0, at(0), at(math.MaxUint32)),
		"zdd: Hi to no node":         record(api.ZDD, 0, 0, at(0), at(20)),
		"cbdd: Lo to no node":        record(api.CBDD, 0, 3, at(api.MaxRoom+1), at(1)),
		"czdd: Hi to no node":        record(api.CZDD, 0, 3, at(1), at(1<<31)),
		"tbdd: Hi to no node":        record(api.TBDD, 0, 0, at(0), tagged(20, 3)),
	}
}

func TestFindOfWrong(t *testing.T) { // P11.2: Arg, nothing is made, and nothing is there; with room, and without
	for _, more := range []int{0, 5} {
		s, m := mixedStore(t, more)
		for what, r := range shorts() {
			if id, err := s.Find(r); id != 0 || err != api.Arg {
				t.Errorf("%s: Find(%v): %d, %v", what, r, id, err)
			}
			if id, ok := s.Has(r); id != 0 || ok {
				t.Errorf("%s: Has(%v): %d, %v", what, r, id, ok)
			}
			if _, err := m.find(r); err != api.Arg {
				t.Errorf("the model: %s: %v", what, err)
			}
		}
		checkAgainst(t, s, m)
	}
}

func TestFindInTheLastLevels(t *testing.T) { // P11.2: an edge to a node whose Top is Bot + 1 leads, to one whose Top is Bot doesn't
	for n := 1; n <= api.MaxVars; n++ {
		for _, f := range five {
			s := made(t, n, 1000)
			for top := n - 1; top >= 0; top-- {
				one := api.Edge{At: 1}
				if f == api.TBDD {
					one.Tag = uint8(n)
				}
				id := found(t, s, record(f, uint8(top), uint8(top), at(0), one))
				e := at(id)
				if f == api.TBDD {
					e.Tag = uint8(top)
				}
				for bot := range n {
					r := record(f, uint8(bot), uint8(bot), at(0), e)
					want := api.Arg
					if bot < top {
						want = api.OK
					}
					if _, err := s.Find(r); err != want {
						t.Errorf("the form %d of %d: Find(%v): %v, wanted %v", f, n, r, err, want)
					}
				}
			}
			checkStore(t, s)
		}
	}
}

func TestFindOfNoVariables(t *testing.T) { // P11.2: no record is right
	s := made(t, 0, 5)
	for _, f := range forms() {
		for _, bot := range []uint8{0, 1, 255} {
			for _, e := range []api.Edge{at(1), tagged(1, 1), tagged(1, 255)} {
				if id, err := s.Find(record(f, 0, bot, at(0), e)); id != 0 || err != api.Arg {
					t.Errorf("Find: %d, %v", id, err)
				}
			}
		}
	}
	checkAgainst(t, s, newModel(0, 5))
}

func TestFull(t *testing.T) { // P11.2: what is there is found still, a new one tells Full, a wrong one Arg
	s, m := mixedStore(t, 0)
	for i, r := range mixed() {
		if id := found(t, s, r); id != uint32(2+i) {
			t.Errorf("Find(%v): %d, wanted %d", r, id, 2+i)
		}
	}
	for _, r := range []api.Record{
		record(api.BDD, 4, 4, at(0), at(1)), record(api.ZDD, 4, 4, at(3), at(1)), record(api.CBDD, 0, 5, at(0), at(1)),
		record(api.CZDD, 0, 5, at(0), at(1)), record(api.TBDD, 4, 4, at(0), tagged(1, 5)),
	} {
		if id, err := s.Find(r); id != 0 || err != api.Full {
			t.Errorf("Find(%v): %d, %v", r, id, err)
		}
		if id, ok := s.Has(r); id != 0 || ok {
			t.Errorf("Has(%v): %d, %v", r, id, ok)
		}
	}
	checkAgainst(t, s, m)
	// With one gone there is room for one.
	stays := m.ids()[:len(m.nodes)-1]
	if gone := s.Sweep(edges(stays...)); gone != 1 {
		t.Fatalf("Sweep: %d", gone)
	}
	if id := found(t, s, record(api.BDD, 4, 4, at(0), at(1))); id != uint32(1+len(mixed())) {
		t.Errorf("Find: %d", id)
	}
	if id, err := s.Find(record(api.BDD, 4, 4, at(1), at(0))); id != 0 || err != api.Full {
		t.Errorf("Find: %d, %v", id, err)
	}
}

func TestFullFromTheBeginning(t *testing.T) { // P11.2: room 0, and room 1
	s := made(t, 4, 0)
	r, other := record(api.BDD, 3, 3, at(0), at(1)), record(api.BDD, 3, 3, at(1), at(0))
	for range 2 {
		if id, err := s.Find(r); id != 0 || err != api.Full {
			t.Errorf("room 0: %d, %v", id, err)
		}
		if id, err := s.Find(record(api.BDD, 3, 3, at(1), at(1))); id != 0 || err != api.Arg {
			t.Errorf("room 0: %d, %v", id, err)
		}
	}
	checkAgainst(t, s, newModel(4, 0))
	s = made(t, 4, 1)
	for range 2 {
		if id := found(t, s, r); id != 2 {
			t.Errorf("room 1: %d", id)
		}
		if id, err := s.Find(other); id != 0 || err != api.Full {
			t.Errorf("room 1: %d, %v", id, err)
		}
	}
	checkStore(t, s)
}

func TestLeads(t *testing.T) { // P11.1: each form, each edge, each level, against the chapter's Words
	s, m := mixedStore(t, 2)
	ids := []uint32{0, 1, 20, 21, 100, 1 << 20, 1<<20 + 1, 1 << 31, math.MaxUint32}
	ids = append(ids, m.ids()...)
	tags := []uint8{0, 1, 2, 3, 4, 5, 6, 7, 8, 16, 128, 255}
	lead := make([]int, 256)
	for _, f := range forms() {
		for _, id := range ids {
			for _, tag := range tags {
				for _, l := range levels(6) {
					e := tagged(id, tag)
					want := m.leads(f, e, l)
					if s.Leads(f, e, l) != want {
						t.Errorf("Leads(%d, %v, %d): %v", f, e, l, !want)
					}
					if want {
						lead[f]++
					}
				}
			}
		}
	}
	for _, f := range five {
		if lead[f] < 20 {
			t.Errorf("only %d edges of the form %d lead", lead[f], f)
		}
	}
	checkAgainst(t, s, m)
}

func TestLeadsByHand(t *testing.T) { // P11.1: a node's Top at the level, above it, below it; a Tag at the level, at the node's Top, outside
	s, _ := mixedStore(t, 0)
	for _, c := range []struct {
		f    api.Form
		e    api.Edge
		l    int
		want bool
	}{
		{api.BDD, at(7), 3, true}, {api.BDD, at(7), 2, true}, {api.BDD, at(7), 0, true}, {api.BDD, at(7), 4, false}, {api.BDD, at(7), 6, false},
		{api.CBDD, at(9), 1, true}, {api.CBDD, at(9), 0, true}, {api.CBDD, at(9), 2, false}, {api.CBDD, at(9), 3, false},
		{api.CZDD, at(10), 2, true}, {api.CZDD, at(10), 3, false}, {api.ZDD, at(8), 3, true}, {api.ZDD, at(8), 4, false},
		{api.TBDD, tagged(11, 3), 3, true}, {api.TBDD, tagged(11, 3), 1, true}, {api.TBDD, tagged(11, 1), 1, true}, {api.TBDD, tagged(11, 2), 1, true},
		{api.TBDD, tagged(11, 0), 1, false}, {api.TBDD, tagged(11, 4), 1, false}, {api.TBDD, tagged(11, 0), 0, true},
		{api.TBDD, tagged(11, 4), 4, false}, {api.TBDD, tagged(11, 3), 4, false}, {api.TBDD, tagged(11, 6), 3, false},
		{api.BDD, tagged(7, 3), 3, false}, {api.CZDD, tagged(10, 1), 1, false},
		{api.BDD, at(8), 3, false}, {api.ZDD, at(7), 3, false}, {api.CBDD, at(7), 1, false}, {api.BDD, at(9), 1, false}, {api.TBDD, at(7), 0, false},
		{api.BDD, at(20), 0, false}, {api.TBDD, tagged(20, 1), 1, false},
		{api.BDD, at(0), 6, true}, {api.BDD, at(1), 6, true}, {api.BDD, at(1), 7, false}, {api.BDD, at(0), -1, false},
		{api.TBDD, at(0), 6, true}, {api.TBDD, at(0), 0, true}, {api.TBDD, tagged(0, 1), 0, false},
		{api.TBDD, tagged(1, 6), 6, true}, {api.TBDD, tagged(1, 6), 0, true}, {api.TBDD, tagged(1, 5), 6, false}, {api.TBDD, tagged(1, 7), 6, false}, {api.TBDD, at(1), 0, true},
	} {
		if s.Leads(c.f, c.e, c.l) != c.want {
			t.Errorf("Leads(%d, %v, %d): %v", c.f, c.e, c.l, !c.want)
		}
	}
}

func TestLeadsOfEachCount(t *testing.T) { // P11.1: in a store without nodes nothing but At 0 and 1 leads
	for n := range api.MaxVars + 1 {
		s, m := made(t, n, 3), newModel(n, 3)
		for _, f := range forms() {
			for _, l := range levels(n) {
				for _, id := range []uint32{0, 1, 2, 3, math.MaxUint32} {
					for _, tag := range []int{0, 1, l - 1, l, l + 1, n - 1, n, n + 1, 255} {
						e := tagged(id, uint8(tag))
						if want := m.leads(f, e, l); s.Leads(f, e, l) != want {
							t.Errorf("of %d: Leads(%d, %v, %d): %v", n, f, e, l, !want)
						}
					}
				}
			}
		}
	}
}

func TestTop(t *testing.T) { // P11.1: a node's; n of At 0 and 1; -1 of an id that no node has; tags play no part
	s, m := mixedStore(t, 4)
	for _, tag := range []uint8{0, 1, 3, 6, 7, 255} {
		for _, id := range append([]uint32{0, 1, 20, 21, 1 << 20, 1<<20 + 1, 1 << 31, math.MaxUint32}, m.ids()...) {
			e := tagged(id, tag)
			if got, want := s.Top(e), m.top(e); got != want {
				t.Errorf("Top(%v): %d, wanted %d", e, got, want)
			}
		}
	}
	if s.Top(at(9)) != 1 || s.Top(at(0)) != 6 || s.Top(at(1)) != 6 || s.Top(at(20)) != -1 {
		t.Error("Top")
	}
	for n := range api.MaxVars + 1 {
		s := made(t, n, 3)
		if s.Top(at(0)) != n || s.Top(at(1)) != n || s.Top(at(2)) != -1 {
			t.Errorf("of %d: Top %d, %d, %d", n, s.Top(at(0)), s.Top(at(1)), s.Top(at(2)))
		}
	}
}

func TestGet(t *testing.T) { // P11.1: a record as it was, or nothing and false
	s, m := mixedStore(t, 4)
	for i, r := range mixed() {
		if got, ok := s.Get(uint32(2 + i)); !ok || got != r {
			t.Errorf("Get(%d): %v, %v", 2+i, got, ok)
		}
	}
	for _, id := range []uint32{0, 1, 20, 21, 1 << 20, 1<<20 + 1, 1 << 31, math.MaxUint32} {
		if got, ok := s.Get(id); ok || got != (api.Record{}) {
			t.Errorf("Get(%d): %v, %v", id, got, ok)
		}
	}
	checkAgainst(t, s, m)
}

func TestIds(t *testing.T) { // P11.1: rising, gone through twice, left in the middle, as they are when it is gone through
	s, m := mixedStore(t, 1)
	row := s.Ids()
	for range 2 {
		if got := slices.Collect(row); !slices.Equal(got, m.ids()) {
			t.Errorf("Ids: %v", got)
		}
	}
	for stop := 1; stop <= s.Len(); stop++ {
		var got []uint32
		for id := range row {
			got = append(got, id)
			if len(got) == stop {
				break
			}
		}
		if !slices.Equal(got, m.ids()[:stop]) {
			t.Errorf("Ids, left behind %d: %v", stop, got)
		}
	}
	// 19 goes, the others stay; then it comes again, and another one.
	s.Sweep(edges(m.ids()[:17]...))
	if got := slices.Collect(row); !slices.Equal(got, m.ids()[:17]) {
		t.Errorf("Ids behind Sweep: %v", got)
	}
	found(t, s, record(api.BDD, 4, 4, at(0), at(1)))
	found(t, s, record(api.BDD, 4, 4, at(1), at(0)))
	if got := slices.Collect(row); !slices.Equal(got, append(m.ids(), 20)) {
		t.Errorf("Ids behind Find: %v", got)
	}
	for range made(t, 3, 3).Ids() {
		t.Error("Ids of no node")
	}
}

func TestReach(t *testing.T) { // P11.3: of one edge, of some, of those that share nodes, of the same one twice
	s, m := mixedStore(t, 2)
	for _, c := range []struct {
		l    []api.Edge
		want []uint32
	}{
		{nil, nil}, {[]api.Edge{}, nil}, {edges(0), nil}, {edges(1), nil}, {edges(0, 1, 20, 1<<20, math.MaxUint32), nil},
		{edges(2), []uint32{2}}, {edges(7), []uint32{2, 7}}, {edges(7, 7, 2), []uint32{2, 7}}, {edges(15), []uint32{2, 7, 15}},
		{edges(12, 9), []uint32{4, 9, 12}}, {edges(13), []uint32{5, 10, 13}}, {edges(14), []uint32{6, 11, 14}}, {edges(17), []uint32{6, 11, 14, 17}},
		{edges(16), []uint32{3, 8, 16}}, {edges(18, 1, 19, 20), []uint32{18, 19}}, {edges(19, 7, 0, 15), []uint32{2, 7, 15, 19}},
		{[]api.Edge{tagged(11, 3), tagged(11, 200), tagged(7, 255)}, []uint32{2, 6, 7, 11}},
	} {
		if got := s.Reach(c.l); !slices.Equal(got, c.want) {
			t.Errorf("Reach(%v): %v, wanted %v", c.l, got, c.want)
		}
		if got := m.reach(c.l); !slices.Equal(got, c.want) {
			t.Errorf("the model: %v: %v, wanted %v", c.l, got, c.want)
		}
	}
	for _, a := range m.ids() {
		for _, b := range m.ids() {
			if got, want := s.Reach(edges(a, b)), m.reach(edges(a, b)); !slices.Equal(got, want) {
				t.Errorf("Reach(%d, %d): %v, wanted %v", a, b, got, want)
			}
		}
	}
	checkAgainst(t, s, m)
}

func TestReachIsTheCallers(t *testing.T) { // R4: what is told is new memory, what is handed in stays
	s, m := mixedStore(t, 2)
	l := edges(15, 17, 3, 0, 1, 40)
	before := slices.Clone(l)
	got := s.Reach(l)
	want := slices.Clone(got)
	for i := range got {
		got[i] = 999
	}
	_ = append(got[:0], 5, 6, 7)
	if again := s.Reach(l); !slices.Equal(again, want) {
		t.Errorf("Reach again: %v, wanted %v", again, want)
	}
	if !slices.Equal(l, before) {
		t.Errorf("Reach: the list is %v", l)
	}
	checkAgainst(t, s, m)
	gone := s.Sweep(l)
	if !slices.Equal(l, before) || gone != m.sweep(l) {
		t.Errorf("Sweep: %d, the list is %v", gone, l)
	}
	for i := range l {
		l[i] = at(2)
	}
	checkAgainst(t, s, m)
}

func TestSweep(t *testing.T) { // P11.3: what isn't reached goes, and what is reached stays as it was
	for _, l := range [][]api.Edge{
		nil, {}, edges(0, 1), edges(20, math.MaxUint32), edges(2), edges(7), edges(7, 7), edges(17), edges(15, 16, 12, 13, 17),
		edges(18), edges(19, 3), {tagged(11, 77)}, edges(2, 3, 4, 5, 6, 7, 8, 9, 10, 11, 12, 13, 14, 15, 16, 17, 18, 19),
	} {
		for _, more := range []int{0, 3} {
			s, m := mixedStore(t, more)
			for range 2 {
				if got, want := s.Sweep(l), m.sweep(l); got != want {
					t.Errorf("Sweep(%v): %d, wanted %d", l, got, want)
				}
				checkAgainst(t, s, m)
			}
			for i, r := range mixed() {
				want, there := m.has(r)
				if got, ok := s.Has(r); got != want || ok != there {
					t.Errorf("Sweep(%v): Has(%d): %d, %v", l, 2+i, got, ok)
				}
			}
		}
	}
}

func TestIdsBehindSweep(t *testing.T) { // P11.2, P11.3: the greatest id that went comes first
	s := made(t, 4, 10)
	for i := range uint8(4) {
		found(t, s, record(api.BDD, i, i, at(0), at(1)))
	}
	for i := range uint8(4) {
		found(t, s, record(api.ZDD, i, i, at(0), at(1)))
	}
	if gone := s.Sweep(edges(3, 7)); gone != 6 {
		t.Fatalf("Sweep: %d", gone)
	}
	if id, err := s.Find(record(api.BDD, 0, 0, at(4), at(1))); id != 0 || err != api.Arg {
		t.Errorf("an edge to a node that went: %d, %v", id, err)
	}
	if id := found(t, s, record(api.ZDD, 1, 1, at(0), at(1))); id != 7 {
		t.Errorf("Find of what stayed: %d", id)
	}
	var got []uint32
	for i := range uint8(4) {
		got = append(got, found(t, s, record(api.CBDD, i, 3, at(0), at(1))), found(t, s, record(api.CZDD, i, 3, at(0), at(1))))
	}
	if want := []uint32{9, 8, 6, 5, 4, 2, 10, 11}; !slices.Equal(got, want) {
		t.Errorf("ids: %v, wanted %v", got, want)
	}
	if id, err := s.Find(record(api.BDD, 3, 3, at(1), at(0))); id != 0 || err != api.Full {
		t.Errorf("full: %d, %v", id, err)
	}
	// A record that went is another node's now.
	if id, ok := s.Has(record(api.BDD, 0, 0, at(0), at(1))); ok || id != 0 {
		t.Errorf("Has of what went: %d, %v", id, ok)
	}
	checkStore(t, s)
}

func TestIdOfAnotherForm(t *testing.T) { // P11.1, P11.2: an id that came again leads as its new node does
	s := made(t, 4, 3)
	found(t, s, record(api.BDD, 1, 1, at(0), at(1)))
	s.Sweep(nil)
	id := found(t, s, record(api.TBDD, 2, 2, at(0), tagged(1, 4)))
	if id != 2 || s.Leads(api.BDD, at(2), 0) || !s.Leads(api.TBDD, tagged(2, 2), 1) || s.Top(at(2)) != 2 {
		t.Errorf("the id %d, Top %d", id, s.Top(at(2)))
	}
	if _, err := s.Find(record(api.BDD, 0, 0, at(2), at(1))); err != api.Arg {
		t.Errorf("Find: %v", err)
	}
}

// drawn: a record, often one that is right.
func drawn(rng *rand.Rand, m *model) api.Record {
	edge := func(f api.Form) api.Edge {
		e := at(uint32(rng.Intn(3)))
		if rng.Intn(3) > 0 {
			e.At = uint32(rng.Intn(int(m.least) + 2))
		}
		if f == api.TBDD && e.At != 0 || rng.Intn(20) == 0 {
			e.Tag = uint8(rng.Intn(m.n + 2))
		}
		return e
	}
	f := api.Form(1 + rng.Intn(5))
	if rng.Intn(30) == 0 {
		f = api.Form(rng.Intn(8))
	}
	bot := rng.Intn(m.n + 1)
	top := bot
	if (f == api.CBDD || f == api.CZDD) && rng.Intn(2) == 0 || rng.Intn(20) == 0 {
		top = rng.Intn(m.n + 1)
	}
	return record(f, uint8(top), uint8(bot), edge(f), edge(f))
}

// drawnEdges: a list.
func drawnEdges(rng *rand.Rand, m *model, most int) []api.Edge {
	var l []api.Edge
	for range rng.Intn(most + 1) {
		l = append(l, tagged(uint32(rng.Intn(int(m.least)+2)), uint8(rng.Intn(4))))
	}
	return l
}

func TestLongRuns(t *testing.T) { // P11.1 to P11.4: drawn calls, held against the model behind each one that changes something
	for seed := range int64(60) {
		rng := rand.New(rand.NewSource(seed))
		n, room := rng.Intn(8), []int{0, 1, 5, 40, 1000}[rng.Intn(5)]
		s, m := made(t, n, room), newModel(n, room)
		for range 400 {
			switch r, l := drawn(rng, m), drawnEdges(rng, m, 8); rng.Intn(12) {
			case 0:
				if got, want := s.Reach(l), m.reach(l); !slices.Equal(got, want) {
					t.Fatalf("seed %d: Reach(%v): %v, wanted %v", seed, l, got, want)
				}
			case 1:
				if rng.Intn(4) == 0 {
					if got, want := s.Sweep(l), m.sweep(l); got != want {
						t.Fatalf("seed %d: Sweep(%v): %d, wanted %d", seed, l, got, want)
					}
					checkAgainst(t, s, m)
				}
			case 2:
				want, there := m.has(r)
				if got, ok := s.Has(r); got != want || ok != there {
					t.Fatalf("seed %d: Has(%v): %d, %v, wanted %d, %v", seed, r, got, ok, want, there)
				}
			default:
				want, wantErr := m.find(r)
				if got, err := s.Find(r); got != want || err != wantErr {
					t.Fatalf("seed %d: Find(%v): %d, %v, wanted %d, %v", seed, r, got, err, want, wantErr)
				}
			}
		}
		checkAgainst(t, s, m)
	}
}

func TestDeepOnes(t *testing.T) { // P11.3: diagrams whose paths are many are gone through once a node
	for _, f := range five {
		s := made(t, 16, 1000)
		one := at(1)
		if f == api.TBDD {
			one.Tag = 16
		}
		a, b := at(0), one
		for l := 15; l >= 0; l-- {
			x := at(found(t, s, record(f, uint8(l), uint8(l), a, b)))
			y := x
			if b.At != 0 && a.At != 0 {
				y = at(found(t, s, record(f, uint8(l), uint8(l), b, a)))
			}
			if f == api.TBDD {
				x.Tag, y.Tag = uint8(l), uint8(l)
			}
			a, b = x, y
			if x == y {
				b = one
			}
		}
		all := slices.Collect(s.Ids())
		if got := s.Reach([]api.Edge{a, b}); !slices.Equal(got, all) {
			t.Errorf("the form %d: Reach: %v, wanted %v", f, got, all)
		}
		if gone := s.Sweep([]api.Edge{a, b}); gone != 0 {
			t.Errorf("the form %d: Sweep: %d", f, gone)
		}
		if gone := s.Sweep(nil); gone != len(all) || s.Len() != 0 {
			t.Errorf("the form %d: Sweep: %d", f, gone)
		}
	}
}

// filled: a store as great as may be, full of BDDs, those of the last levels first.
func filled(t *testing.T) *Store {
	s := made(t, 16, api.MaxRoom)
	ends := []uint32{0, 1}
	for level := uint8(15); ; level-- {
		var more []uint32
		for _, lo := range ends {
			for _, hi := range ends {
				if s.Len() == api.MaxRoom {
					return s
				}
				if lo == hi {
					continue
				}
				id, err := s.Find(record(api.BDD, level, level, at(lo), at(hi)))
				if err != api.OK || id != uint32(s.Len()+1) {
					t.Fatalf("Find: %d, %v, behind %d nodes", id, err, s.Len())
				}
				more = append(more, id)
			}
		}
		ends = append(ends, more...)
	}
}

func TestGreatestRoom(t *testing.T) { // P11.1 to P11.4: 2^20 nodes
	s := filled(t)
	if s.Len() != api.MaxRoom {
		t.Fatalf("Len: %d", s.Len())
	}
	if id, err := s.Find(record(api.ZDD, 0, 0, at(0), at(1))); id != 0 || err != api.Full {
		t.Errorf("full: %d, %v", id, err)
	}
	var l []api.Edge
	for id := range s.Ids() {
		l = append(l, at(id))
	}
	if got := s.Reach(l); len(got) != api.MaxRoom || !slices.IsSorted(got) || got[0] != 2 || got[len(got)-1] != api.MaxRoom+1 {
		t.Errorf("Reach: %d ids", len(got))
	}
	last := at(api.MaxRoom + 1)
	stays := s.Reach([]api.Edge{last})
	if gone := s.Sweep([]api.Edge{last}); gone != api.MaxRoom-len(stays) || s.Len() != len(stays) {
		t.Errorf("Sweep: %d, Len %d, %d are reached", gone, s.Len(), len(stays))
	}
	if got := slices.Collect(s.Ids()); !slices.Equal(got, stays) {
		t.Errorf("Ids: %v, wanted %v", got, stays)
	}
	if id := found(t, s, record(api.ZDD, 0, 0, at(0), at(1))); id != api.MaxRoom {
		t.Errorf("Find: %d", id)
	}
	checkStore(t, s)
}

func TestTwoStores(t *testing.T) { // R6: one has nothing of the other's
	s, m := mixedStore(t, 2)
	other := made(t, 6, 5)
	if id := found(t, other, record(api.TBDD, 5, 5, at(0), tagged(1, 6))); id != 2 {
		t.Errorf("Find: %d", id)
	}
	if _, ok := other.Has(mixed()[0]); ok || other.Len() != 1 {
		t.Errorf("Has, Len %d", other.Len())
	}
	other.Sweep(nil)
	checkAgainst(t, s, m)
}

// checkNothing: what an object without room, nodes or variables tells of all calls but Top, Find and Leads.
func checkNothing(t *testing.T, s *Store) {
	t.Helper()
	if s.Vars() != 0 || s.Len() != 0 || s.Room() != 0 {
		t.Errorf("Vars %d, Len %d, Room %d", s.Vars(), s.Len(), s.Room())
	}
	for _, id := range []uint32{0, 1, 2, 3, math.MaxUint32} {
		if r, ok := s.Get(id); ok || r != (api.Record{}) {
			t.Errorf("Get(%d): %v, %v", id, r, ok)
		}
	}
	for _, r := range append(mixed(), api.Record{}) {
		if id, ok := s.Has(r); ok || id != 0 {
			t.Errorf("Has(%v): %d, %v", r, id, ok)
		}
	}
	if s.Ids() == nil {
		t.Fatal("Ids: no row")
	}
	for id := range s.Ids() {
		t.Errorf("Ids: %d", id)
	}
	for _, l := range [][]api.Edge{nil, {}, edges(0, 1, 2, 3, math.MaxUint32)} {
		if got := s.Reach(l); len(got) != 0 {
			t.Errorf("Reach: %v", got)
		}
		if got := s.Sweep(l); got != 0 {
			t.Errorf("Sweep: %d", got)
		}
	}
}

func TestNil(t *testing.T) { // P11.1 to P11.3: of a nil store 0, false, nothing, -1, Nil
	var s *Store
	checkNothing(t, s)
	for _, id := range []uint32{0, 1, 2, math.MaxUint32} {
		if got := s.Top(at(id)); got != -1 {
			t.Errorf("Top(%d): %d", id, got)
		}
		for _, f := range forms() {
			for _, l := range levels(0) {
				if s.Leads(f, at(id), l) {
					t.Errorf("Leads(%d, %d, %d): true", f, id, l)
				}
			}
		}
	}
	for _, r := range append(mixed(), api.Record{}, record(api.BDD, 3, 3, at(1), at(1))) {
		if id, err := s.Find(r); id != 0 || err != api.Nil {
			t.Errorf("Find(%v): %d, %v", r, id, err)
		}
	}
}

func TestUnmade(t *testing.T) { // R1: a Store that New didn't make doesn't panic
	checkNothing(t, &Store{})
	s := &Store{}
	for _, r := range append(mixed(), api.Record{}) {
		if id, err := s.Find(r); id != 0 || err != api.Arg {
			t.Errorf("Find(%v): %d, %v", r, id, err)
		}
	}
	if s.Leads(api.BDD, at(2), 0) || s.Top(at(2)) != -1 {
		t.Error("the node 2 of no nodes")
	}
}

func TestAnyArguments(t *testing.T) { // R1: nothing panics, and nothing changes but by Find and Sweep
	rng := rand.New(rand.NewSource(11))
	s, m := mixedStore(t, 0)
	for range 20000 {
		e := tagged(rng.Uint32(), uint8(rng.Intn(256)))
		if rng.Intn(2) == 0 {
			e.At %= 32
		}
		f, l := api.Form(rng.Intn(256)), int(rng.Uint64())
		if rng.Intn(2) == 0 {
			f, l = f%8, l%9
		}
		if s.Leads(f, e, l) != m.leads(f, e, l) || s.Top(e) != m.top(e) {
			t.Fatalf("Leads(%d, %v, %d): %v, Top %d", f, e, l, s.Leads(f, e, l), s.Top(e))
		}
		r := record(f, uint8(rng.Intn(256)), uint8(rng.Intn(256)), e, tagged(rng.Uint32()%32, uint8(rng.Intn(256))))
		want, wantErr := m.find(r)
		if id, err := s.Find(r); id != want || err != wantErr {
			t.Fatalf("Find(%v): %d, %v, wanted %d, %v", r, id, err, want, wantErr)
		}
		if got, want := s.Reach([]api.Edge{e, r.Hi}), m.reach([]api.Edge{e, r.Hi}); !reflect.DeepEqual(got, want) {
			t.Fatalf("Reach: %v, wanted %v", got, want)
		}
	}
	checkAgainst(t, s, m)
}
