package arena

import (
	"fmt"
	"iter"
	"math"
	"math/rand"
	"runtime"
	"slices"
	"testing"
	"weak"

	"ramage/api"
)

// model does what the chapter says of an arena, by maps and lists, with nothing kept short.
type model[T any] struct {
	room    int
	given   uint32 // how many ids were ever given
	things  map[uint32]T
	held    map[uint32]int
	dropped []uint32 // and not given again
}

func newModel[T any](room int) *model[T] {
	return &model[T]{room: room, things: map[uint32]T{}, held: map[uint32]int{}}
}

func (m *model[T]) put(x T) (uint32, bool) {
	if len(m.things) >= m.room {
		return 0, false
	}
	id := m.given + 2
	if count := len(m.dropped); count > 0 {
		id = m.dropped[count-1]
		m.dropped = m.dropped[:count-1]
	} else {
		m.given++
	}
	m.things[id] = x
	return id, true
}

func (m *model[T]) set(id uint32, x T) bool {
	_, ok := m.things[id]
	if ok {
		m.things[id] = x
	}
	return ok
}

func (m *model[T]) drop(id uint32) bool {
	_, ok := m.things[id]
	if !ok || m.held[id] > 0 {
		return false
	}
	delete(m.things, id)
	m.dropped = append(m.dropped, id)
	return true
}

func (m *model[T]) hold(id uint32) bool {
	_, ok := m.things[id]
	if ok {
		m.held[id]++
	}
	return ok
}

func (m *model[T]) let(id uint32) bool {
	ok := m.held[id] > 0
	if ok {
		m.held[id]--
	}
	return ok
}

func (m *model[T]) ids() []uint32 {
	var l []uint32
	for id := range m.things {
		l = append(l, id)
	}
	slices.Sort(l)
	return l
}

// made: an arena that must be.
func made[T any](t *testing.T, room int) *Arena[T] {
	t.Helper()
	a, err := New[T](room)
	if a == nil || err != api.OK {
		t.Fatalf("New(%d): %v, %v", room, a, err)
	}
	return a
}

// filled: an arena with these things, the first one's id 2, and so on.
func filled[T any](t *testing.T, room int, things ...T) *Arena[T] {
	t.Helper()
	a := made[T](t, room)
	for i, x := range things {
		if id, ok := a.Put(x); !ok || id != uint32(i+2) {
			t.Fatalf("Put of thing %d, room %d: %d, %v", i, room, id, ok)
		}
	}
	return a
}

// checkPut: a thing is put, and has this id.
func checkPut[T any](t *testing.T, what string, a *Arena[T], x T, want uint32) {
	t.Helper()
	if id, ok := a.Put(x); !ok || id != want {
		t.Errorf("%s: Put: %d, %v; not %d, true", what, id, ok, want)
	}
}

// checkFull: no thing can be put, and nothing changes.
func checkFull[T any](t *testing.T, what string, a *Arena[T], x T) {
	t.Helper()
	count := a.Len()
	if id, ok := a.Put(x); ok || id != 0 || a.Len() != count {
		t.Errorf("%s: Put: %d, %v; %d things, not %d", what, id, ok, a.Len(), count)
	}
}

// checkNone: no thing has this id, at no call.
func checkNone[T comparable](t *testing.T, what string, a *Arena[T], id uint32, x T) {
	t.Helper()
	count, ids := a.Len(), slices.Collect(a.Ids())
	var none T
	for range 2 {
		if got, ok := a.Get(id); ok || got != none {
			t.Errorf("%s: Get(%d): %v, %v", what, id, got, ok)
		}
		if a.Set(id, x) || a.Hold(id) || a.Let(id) || a.Drop(id) || a.Held(id) != 0 {
			t.Errorf("%s: %d is an id, or is held %d times", what, id, a.Held(id))
		}
	}
	if a.Len() != count || !slices.Equal(slices.Collect(a.Ids()), ids) {
		t.Errorf("%s: by %d, which is no id, there are %d things, not %d", what, id, a.Len(), count)
	}
}

// checkIs: the arena tells of each id what the model does, and of some that it doesn't know.
func checkIs[T comparable](t *testing.T, what string, a *Arena[T], m *model[T]) {
	t.Helper()
	if a.Len() != len(m.things) || a.Room() != m.room {
		t.Fatalf("%s: %d things, room %d; not %d, %d", what, a.Len(), a.Room(), len(m.things), m.room)
	}
	if l := slices.Collect(a.Ids()); !slices.Equal(l, m.ids()) {
		t.Fatalf("%s: ids %v, not %v", what, l, m.ids())
	}
	for id := range m.given + 5 {
		want, has := m.things[id]
		if x, ok := a.Get(id); ok != has || x != want || a.Held(id) != m.held[id] {
			t.Fatalf("%s: %d is %v, %v, held %d times; not %v, %v, %d", what, id, x, ok, a.Held(id), want, has, m.held[id])
		}
	}
}

// rooms that can't be.
func wrongRooms() []int {
	return []int{
		-1, -2, -64, -api.MaxRoom, math.MinInt32, math.MinInt, math.MinInt + 1,
		api.MaxRoom + 1, api.MaxRoom + 2, 2 * api.MaxRoom, math.MaxInt32, math.MaxUint32, 1 << 32, 1<<32 + 3, math.MaxInt - 1, math.MaxInt,
	}
}

// great: ids that are never given.
func great() []uint32 {
	return []uint32{api.MaxRoom + 2, api.MaxRoom + 3, 1 << 21, math.MaxInt32, 1 << 31, 1<<31 + 1, 1<<31 + 2, math.MaxUint32 - 2, math.MaxUint32 - 1, math.MaxUint32}
}

func TestNew(t *testing.T) { // P6.1
	for _, room := range []int{0, 1, 2, 3, 64, 1000, api.MaxRoom - 1, api.MaxRoom} {
		a := made[string](t, room)
		if a.Len() != 0 || a.Room() != room || slices.Collect(a.Ids()) != nil {
			t.Errorf("New(%d): %d things, room %d, ids %v", room, a.Len(), a.Room(), slices.Collect(a.Ids()))
		}
		for id := range uint32(6) {
			checkNone(t, fmt.Sprintf("New(%d)", room), a, id, "x")
		}
	}
	for _, room := range wrongRooms() {
		if a, err := New[int](room); a != nil || err != api.Arg {
			t.Errorf("New(%d): %v, %v", room, a, err)
		}
		if a, err := New[[]string](room); a != nil || err != api.Arg {
			t.Errorf("New(%d) of lists: %v, %v", room, a, err)
		}
	}
}

// record is a thing of several parts.
type record struct {
	name string
	at   [2]uint32
	next *record
}

// checkKind: things of a kind are put, told, set, dropped, put again.
func checkKind[T comparable](t *testing.T, what string, x, y, z T) {
	t.Helper()
	a, m := made[T](t, 3), newModel[T](3)
	for i, thing := range []T{x, y, z, x} {
		id, ok := a.Put(thing)
		if want, has := m.put(thing); id != want || ok != has {
			t.Errorf("%s: Put of thing %d: %d, %v; not %d, %v", what, i, id, ok, want, has)
		}
		checkIs(t, what, a, m)
	}
	for i, thing := range []T{z, y, x, z} {
		id := uint32(4 - i)
		if ok, has := a.Set(id, thing), m.set(id, thing); ok != has {
			t.Errorf("%s: Set(%d): %v, not %v", what, id, ok, has)
		}
		checkIs(t, what, a, m)
	}
	a.Drop(3)
	m.drop(3)
	checkIs(t, what+", 3 dropped", a, m)
	checkNone(t, what+", 3 dropped", a, 3, z)
	checkPut(t, what, a, z, 3)
	m.put(z)
	checkIs(t, what+", 3 put again", a, m)
}

func TestKinds(t *testing.T) { // P6.1: things of more than one kind, their zero values among them
	checkKind(t, "int", 5, 0, math.MinInt)
	checkKind(t, "uint8", uint8(255), 0, 1)
	checkKind(t, "bool", true, false, true)
	checkKind(t, "string", "x", "", "\xff\x00")
	checkKind(t, "float64", 0.5, math.Inf(1), 0)
	checkKind(t, "struct{}", struct{}{}, struct{}{}, struct{}{})
	checkKind(t, "array", [3]int{1, 2, 3}, [3]int{}, [3]int{0, 0, 9})
	checkKind(t, "record", record{"a", [2]uint32{1, 2}, nil}, record{}, record{"b", [2]uint32{}, &record{}})
	checkKind(t, "pointer", &record{name: "a"}, nil, &record{name: "a"})
	checkKind(t, "any", any(3), any("3"), nil)
	checkKind(t, "api.Record", api.Record{Form: api.BDD, Hi: api.Edge{At: 1}}, api.Record{}, api.Record{Form: api.TBDD, Top: 1, Bot: 1, Lo: api.Edge{Tag: 3, At: 7}})
}

func TestThingsNotComparable(t *testing.T) { // P6.1
	lists := filled(t, 3, []int{1, 2}, nil, []int{})
	if l, ok := lists.Get(2); !ok || !slices.Equal(l, []int{1, 2}) {
		t.Errorf("Get of a list: %v, %v", l, ok)
	}
	if l, ok := lists.Get(3); !ok || l != nil {
		t.Errorf("Get of a nil list: %v, %v", l, ok)
	}
	if l, ok := lists.Get(5); ok || l != nil {
		t.Errorf("Get of no list: %v, %v", l, ok)
	}
	functions := filled(t, 2, func(x int) int { return x + 1 }, nil)
	if f, ok := functions.Get(2); !ok || f == nil || f(4) != 5 {
		t.Errorf("Get of a function: %v", ok)
	}
	if f, ok := functions.Get(3); !ok || f != nil {
		t.Errorf("Get of a nil function: %v", ok)
	}
	maps := filled(t, 1, map[string]int{"a": 1})
	if m, ok := maps.Get(2); !ok || m["a"] != 1 {
		t.Errorf("Get of a map: %v, %v", m, ok)
	}
	if !maps.Drop(2) || maps.Drop(2) {
		t.Error("a map that was put doesn't go once")
	}
}

func TestRoomForNothing(t *testing.T) { // P6.1
	a := made[int](t, 0)
	for range 3 {
		checkFull(t, "room 0", a, 7)
	}
	for id := range uint32(6) {
		checkNone(t, "room 0", a, id, 7)
	}
	if a.Len() != 0 || a.Room() != 0 || slices.Collect(a.Ids()) != nil {
		t.Errorf("room 0: %d things, room %d", a.Len(), a.Room())
	}
}

func TestRoomForOne(t *testing.T) { // P6.1, P6.2
	a := made[string](t, 1)
	for i, x := range []string{"a", "b", "c"} {
		checkPut(t, "room 1", a, x, 2)
		checkFull(t, "room 1", a, "other")
		if got, ok := a.Get(2); !ok || got != x || a.Len() != 1 || !slices.Equal(slices.Collect(a.Ids()), []uint32{2}) {
			t.Errorf("room 1, thing %d: %s, %v", i, got, ok)
		}
		if !a.Hold(2) || a.Drop(2) || !a.Let(2) || !a.Drop(2) || a.Len() != 0 || a.Room() != 1 {
			t.Errorf("room 1, thing %d: isn't held, or doesn't go", i)
		}
		checkNone(t, "room 1, dropped", a, 2, "other")
	}
}

func TestGreatestRoom(t *testing.T) { // P6.1: 2^20 things
	a := made[int](t, api.MaxRoom)
	for i := range api.MaxRoom {
		if id, ok := a.Put(3 * i); !ok || id != uint32(i+2) {
			t.Fatalf("Put of thing %d: %d, %v", i, id, ok)
		}
	}
	checkFull(t, "2^20 things", a, 1)
	for _, id := range []uint32{2, 3, 1 << 10, api.MaxRoom, api.MaxRoom + 1} {
		if x, ok := a.Get(id); !ok || x != 3*int(id-2) {
			t.Errorf("Get(%d): %d, %v", id, x, ok)
		}
	}
	// From the front on, so that they come again from the end.
	for _, id := range []uint32{2, 500000, api.MaxRoom, api.MaxRoom + 1} {
		if !a.Drop(id) {
			t.Errorf("Drop(%d): false", id)
		}
	}
	if a.Len() != api.MaxRoom-4 {
		t.Errorf("%d things", a.Len())
	}
	want := uint32(2)
	for id := range a.Ids() {
		for _, dropped := range []uint32{2, 500000, api.MaxRoom, api.MaxRoom + 1} {
			if want == dropped {
				want++
			}
		}
		if id != want {
			t.Fatalf("Ids: %d, not %d", id, want)
		}
		want++
	}
	for _, id := range []uint32{api.MaxRoom + 1, api.MaxRoom, 500000, 2} {
		checkPut(t, "2^20 things", a, -1, id)
	}
	checkFull(t, "2^20 things again", a, 1)
	for _, id := range great() {
		if _, ok := a.Get(id); ok || a.Set(id, 1) || a.Hold(id) || a.Let(id) || a.Drop(id) || a.Held(id) != 0 {
			t.Errorf("%d is an id", id)
		}
	}
}

func TestFull(t *testing.T) { // P6.1
	for _, room := range []int{1, 2, 3, 7, 64, 65} {
		what := fmt.Sprint("room ", room)
		a := made[int](t, room)
		for i := range room {
			checkPut(t, what, a, i, uint32(i+2))
		}
		for id := range uint32(room) {
			checkFull(t, what, a, -1)
			if !a.Drop(id+2) || a.Len() != room-1 {
				t.Errorf("%s: Drop(%d), then %d things", what, id+2, a.Len())
			}
			checkPut(t, what, a, -1, id+2)
		}
		checkFull(t, what, a, -1)
	}
}

func TestDroppedComeAgain(t *testing.T) { // P6.1: the one dropped last first, those never given behind all
	a := filled(t, 10, "2", "3", "4", "5", "6")
	for _, id := range []uint32{4, 2, 6, 3} {
		if !a.Drop(id) {
			t.Fatalf("Drop(%d): false", id)
		}
	}
	for _, id := range []uint32{3, 6} {
		checkPut(t, "of four dropped", a, "again", id)
	}
	if !a.Drop(5) {
		t.Fatal("Drop(5): false")
	}
	for _, id := range []uint32{5, 2, 4, 7, 8, 9, 10, 11} {
		checkPut(t, "of three dropped", a, "again", id)
	}
	checkFull(t, "ten things", a, "more")
}

func TestAllDropped(t *testing.T) { // P6.1: no id is forgotten
	a := filled(t, 5, 1, 2, 3)
	for id := uint32(2); id < 5; id++ {
		a.Drop(id)
	}
	if a.Len() != 0 || slices.Collect(a.Ids()) != nil {
		t.Errorf("all dropped: %d things, ids %v", a.Len(), slices.Collect(a.Ids()))
	}
	for _, id := range []uint32{4, 3, 2, 5, 6} {
		checkPut(t, "all dropped", a, 0, id)
	}
	checkFull(t, "five things", a, 0)
}

func TestDropRefusedGivesNoId(t *testing.T) { // P6.1, P6.2: an id that isn't dropped isn't given again
	a := filled(t, 9, 1, 2, 3)
	a.Hold(3)
	a.Drop(2)
	for _, id := range []uint32{3, 2, 0, 1, 5, 99, math.MaxUint32} {
		if a.Drop(id) {
			t.Errorf("Drop(%d): true", id)
		}
	}
	for _, id := range []uint32{2, 5, 6} {
		checkPut(t, "behind refused drops", a, 0, id)
	}
}

func TestSet(t *testing.T) { // P6.1
	a := filled(t, 4, "a", "b", "c")
	a.Hold(3)
	if !a.Set(3, "B") || !a.Set(3, "") || !a.Set(4, "C") {
		t.Error("Set: false")
	}
	for id, want := range map[uint32]string{2: "a", 3: "", 4: "C"} {
		if x, ok := a.Get(id); !ok || x != want {
			t.Errorf("Get(%d): %s, %v; not %s", id, x, ok, want)
		}
	}
	if a.Held(3) != 1 || a.Held(4) != 0 || a.Len() != 3 || a.Drop(3) {
		t.Error("by Set a thing isn't held as it was")
	}
	checkPut(t, "behind Set", a, "d", 5)
}

func TestHold(t *testing.T) { // P6.2
	a := filled(t, 3, 'x', 'y', 'z')
	for count := range 1000 {
		if a.Held(3) != count || !a.Hold(3) || a.Drop(3) {
			t.Fatalf("held %d times, not %d", a.Held(3), count)
		}
	}
	if a.Held(2) != 0 || a.Held(4) != 0 {
		t.Error("others are held, too")
	}
	for count := 1000; count > 0; count-- {
		if a.Held(3) != count || a.Drop(3) || !a.Let(3) {
			t.Fatalf("held %d times, not %d", a.Held(3), count)
		}
	}
	if a.Held(3) != 0 || a.Let(3) || a.Let(3) || a.Held(3) != 0 {
		t.Errorf("let go more often than held: %d", a.Held(3))
	}
	if x, ok := a.Get(3); !ok || x != 'y' || a.Len() != 3 {
		t.Errorf("let go, it is %c, %v", x, ok)
	}
	if !a.Hold(3) || a.Held(3) != 1 || !a.Let(3) || !a.Drop(3) || a.Drop(3) {
		t.Error("held again, let go, dropped")
	}
}

func TestHeldAgain(t *testing.T) { // P6.2: an id that comes again is not held
	a := filled(t, 2, 1, 2)
	a.Hold(3)
	a.Hold(3)
	a.Let(3)
	a.Let(3)
	if !a.Drop(3) || a.Held(3) != 0 || a.Hold(3) || a.Held(3) != 0 {
		t.Error("what was dropped is held")
	}
	checkPut(t, "behind Drop", a, 9, 3)
	if a.Held(3) != 0 || a.Let(3) || !a.Drop(3) {
		t.Errorf("a new thing is held %d times", a.Held(3))
	}
}

func TestFullOfHeld(t *testing.T) { // P6.2
	a := filled(t, 3, 1, 2, 3)
	for id := uint32(2); id < 5; id++ {
		a.Hold(id)
	}
	for id := range uint32(6) {
		if a.Drop(id) {
			t.Errorf("Drop(%d): true", id)
		}
	}
	checkFull(t, "three held", a, 4)
	if !a.Let(4) || !a.Drop(4) {
		t.Error("let go, it doesn't go")
	}
	checkPut(t, "one let go", a, 4, 4)
}

func TestNoIds(t *testing.T) { // P6.1, P6.2: ids that no thing has
	a := filled(t, 9, "2", "3", "4", "5")
	a.Hold(2)
	a.Drop(3)
	a.Drop(5)
	for _, id := range append(great(), 0, 1, 3, 5, 6, 7, 10, 11) {
		checkNone(t, "4 put, 2 dropped", a, id, "x")
	}
	for id, want := range map[uint32]string{2: "2", 4: "4"} {
		if x, ok := a.Get(id); !ok || x != want {
			t.Errorf("Get(%d): %s, %v", id, x, ok)
		}
	}
	if a.Held(2) != 1 || a.Held(4) != 0 {
		t.Errorf("held: %d, %d", a.Held(2), a.Held(4))
	}
	for _, id := range []uint32{5, 3, 6} {
		checkPut(t, "behind wrong ids", a, "x", id)
	}
}

// checkRow: the row tells what is wanted, again and again, within itself, and stops wherever it is left.
func checkRow(t *testing.T, what string, row iter.Seq[uint32], want []uint32) {
	t.Helper()
	if row == nil {
		t.Fatalf("%s: a nil row", what)
	}
	for range 3 {
		if l := slices.Collect(row); !slices.Equal(l, want) {
			t.Errorf("%s: %v, not %v", what, l, want)
		}
	}
	for stop := 1; stop <= len(want); stop++ {
		var l []uint32
		row(func(id uint32) bool {
			l = append(l, id)
			return len(l) < stop
		})
		if !slices.Equal(l, want[:stop]) {
			t.Errorf("%s, left at %d: %v, not %v", what, stop, l, want[:stop])
		}
	}
	at := 0
	for id := range row {
		if l := slices.Collect(row); !slices.Equal(l, want) || id != want[at] {
			t.Errorf("%s, within itself: %d at %d, %v, not %v", what, id, at, l, want)
		}
		at++
	}
}

func TestIds(t *testing.T) { // P6.1
	a := filled(t, 8, 0, 0, 0, 0, 0)
	row := a.Ids()
	checkRow(t, "five", row, []uint32{2, 3, 4, 5, 6})
	a.Drop(2)
	a.Drop(5)
	checkRow(t, "without 2 and 5", row, []uint32{3, 4, 6})
	checkRow(t, "without 2 and 5, asked anew", a.Ids(), []uint32{3, 4, 6})
	a.Drop(6)
	a.Put(1)
	checkRow(t, "6 put again", row, []uint32{3, 4, 6})
	a.Hold(4)
	a.Set(3, 9)
	checkRow(t, "held, set", row, []uint32{3, 4, 6})
	for range 5 {
		a.Put(1)
	}
	checkRow(t, "eight", row, []uint32{2, 3, 4, 5, 6, 7, 8, 9})
	checkRow(t, "none", made[int](t, 5).Ids(), nil)
}

func TestIdsOfAnEmptyArena(t *testing.T) { // P6.1: a row that was told ahead tells what is there when it is gone through
	a := made[string](t, 2)
	row := a.Ids()
	checkRow(t, "none yet", row, nil)
	a.Put("x")
	a.Put("y")
	checkRow(t, "two", row, []uint32{2, 3})
	a.Drop(2)
	a.Drop(3)
	checkRow(t, "none any more", row, nil)
}

func TestIdsWhileChanged(t *testing.T) { // R1: the row ends, and nothing panics
	a := filled(t, api.MaxRoom, 1, 2, 3, 4)
	count := 0
	for id := range a.Ids() {
		a.Put(int(id))
		count++
		if count > 100 {
			t.Fatal("a row to which things are put doesn't end")
		}
	}
	for id := range a.Ids() {
		a.Drop(id)
	}
	if a.Len() != 0 {
		t.Errorf("%d things that weren't dropped", a.Len())
	}
	for id := range filled(t, 3, 1, 2, 3).Ids() {
		for other := range uint32(6) {
			a.Drop(other)
		}
		a.Put(int(id))
	}
}

// checkNil: an arena without room, or none at all, tells 0, false, nothing at each call.
func checkNil[T comparable](t *testing.T, what string, a *Arena[T], x T) {
	t.Helper()
	row := a.Ids()
	for range 2 {
		checkFull(t, what, a, x)
		if a.Len() != 0 || a.Room() != 0 {
			t.Errorf("%s: %d things, room %d", what, a.Len(), a.Room())
		}
		for _, id := range append(great(), 0, 1, 2, 3, 4) {
			checkNone(t, what, a, id, x)
		}
		checkRow(t, what, row, nil)
	}
}

func TestNilArena(t *testing.T) { // P6.1, P6.2
	checkNil(t, "nil, of int", (*Arena[int])(nil), 7)
	checkNil(t, "nil, of string", (*Arena[string])(nil), "x")
	checkNil(t, "nil, of record", (*Arena[record])(nil), record{name: "x"})
	checkNil(t, "nil, of pointers", (*Arena[*record])(nil), &record{})
	checkNil(t, "not made by New", &Arena[int]{}, 7)
	refused, _ := New[int](-1)
	checkNil(t, "refused", refused, 7)
	if l, ok := (*Arena[[]int])(nil).Get(2); l != nil || ok {
		t.Errorf("nil, of lists: %v, %v", l, ok)
	}
}

func TestArenasApart(t *testing.T) { // R6: nothing is kept but in the arena itself
	a, b := filled(t, 3, "a", "b"), filled(t, 3, "A", "B", "C")
	a.Hold(2)
	b.Drop(3)
	if b.Held(2) != 0 || a.Len() != 2 || b.Len() != 2 {
		t.Error("what was done to one is done to the other")
	}
	if x, ok := a.Get(3); !ok || x != "b" {
		t.Errorf("Get(3): %s, %v", x, ok)
	}
	checkPut(t, "one", a, "c", 4)
	checkPut(t, "other", b, "D", 3)
}

func TestThingsToldAreCopies(t *testing.T) { // R4: a thing is changed by Set alone
	a := made[[2]int](t, 2)
	x := [2]int{1, 2}
	a.Put(x)
	x[0] = 9
	got, _ := a.Get(2)
	got[1] = 9
	if again, _ := a.Get(2); again != [2]int{1, 2} {
		t.Errorf("Get: %v", again)
	}
	l := []int{1, 2, 3}
	lists := filled(t, 1, l[:2])
	lists.Hold(2)
	lists.Let(2)
	lists.Drop(2)
	if !slices.Equal(l, []int{1, 2, 3}) {
		t.Errorf("a list that was put is %v", l)
	}
}

// leave puts two things into a, drops one and sets the other to nil: nobody else has them then.
func leave(a *Arena[*record]) (dropped, replaced weak.Pointer[record]) {
	x, y := &record{name: "x"}, &record{name: "y"}
	first, _ := a.Put(x)
	second, _ := a.Put(y)
	a.Drop(first)
	a.Set(second, nil)
	return weak.Make(x), weak.Make(y)
}

func TestDroppedIsNotKept(t *testing.T) { // nothing is kept that no promise needs
	a := made[*record](t, 5)
	dropped, replaced := leave(a)
	runtime.GC()
	runtime.GC()
	if dropped.Value() != nil || replaced.Value() != nil {
		t.Error("a thing that went is still kept")
	}
	runtime.KeepAlive(a)
}

// step does one thing to the arena and to the model, and holds the answers against each other.
func step(t *testing.T, source *rand.Rand, a *Arena[string], m *model[string]) {
	t.Helper()
	id := uint32(source.Intn(int(m.given) + 4))
	thing := fmt.Sprint("thing ", source.Intn(1000))
	var got, want string
	switch source.Intn(8) {
	case 0, 1, 2:
		one, ok := a.Put(thing)
		other, has := m.put(thing)
		got, want = fmt.Sprint("Put ", one, ok), fmt.Sprint("Put ", other, has)
	case 3:
		got, want = fmt.Sprint("Set ", id, a.Set(id, thing)), fmt.Sprint("Set ", id, m.set(id, thing))
	case 4, 5:
		got, want = fmt.Sprint("Drop ", id, a.Drop(id)), fmt.Sprint("Drop ", id, m.drop(id))
	case 6:
		got, want = fmt.Sprint("Hold ", id, a.Hold(id)), fmt.Sprint("Hold ", id, m.hold(id))
	case 7:
		got, want = fmt.Sprint("Let ", id, a.Let(id)), fmt.Sprint("Let ", id, m.let(id))
	}
	if got != want {
		t.Fatalf("%s, not %s", got, want)
	}
}

func TestAgainstTheModel(t *testing.T) { // P6.1, P6.2, P6.3: each id is of one thing; what isn't dropped stays
	for seed := range int64(40) {
		source := rand.New(rand.NewSource(seed))
		room := []int{0, 1, 2, 5, 20, 200}[seed%6]
		a, m := made[string](t, room), newModel[string](room)
		for i := range 600 {
			step(t, source, a, m)
			if i%7 == 0 || room < 6 {
				checkIs(t, fmt.Sprintf("seed %d, step %d", seed, i), a, m)
			}
		}
		checkIs(t, fmt.Sprintf("seed %d", seed), a, m)
	}
}

func TestWhatIsNotDroppedStays(t *testing.T) { // P6.3
	a := filled(t, 1000, 0, 1, 2, 3, 4, 5, 6, 7, 8, 9)
	for round := range 300 {
		var l []uint32
		for i := range round % 37 {
			id, ok := a.Put(-i)
			if !ok || id < 12 || slices.Contains(l, id) {
				t.Fatalf("Put: %d, %v, among %v", id, ok, l)
			}
			l = append(l, id)
		}
		for _, id := range l {
			a.Drop(id)
		}
		for i := range 10 {
			if x, ok := a.Get(uint32(i + 2)); !ok || x != i {
				t.Fatalf("round %d: Get(%d): %d, %v", round, i+2, x, ok)
			}
		}
	}
	if a.Len() != 10 {
		t.Errorf("%d things", a.Len())
	}
}

func TestExample(t *testing.T) { // the chapter's Examples
	a := made[string](t, 2)
	checkPut(t, "room 2", a, "a", 2)
	checkPut(t, "room 2", a, "b", 3)
	checkFull(t, "room 2", a, "c")
	if !a.Drop(2) {
		t.Error("Drop(2): false")
	}
	checkPut(t, "2 dropped", a, "c", 2)
}
