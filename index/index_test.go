package index

import (
	"fmt"
	"math"
	"math/rand"
	"runtime"
	"slices"
	"testing"
	"weak"

	"ramage/api"
)

// number is a key that is a number, and its own hash.
type number int

func (k number) Hash() uint64 { return uint64(k) }

// place is a key of several parts.
type place struct {
	name  string
	level uint8
	edges [2]api.Edge
}

func (k place) Hash() uint64 {
	h := uint64(k.level)
	for _, b := range []byte(k.name) {
		h = 31*h + uint64(b)
	}
	for _, e := range k.edges {
		h = 31*(31*h+uint64(e.Tag)) + uint64(e.At)
	}
	return h
}

// Keys that are numbers, with hashes of each kind.
type (
	same      int // one hash for all
	nought    int // the least one
	greatest  int // the greatest one
	highest   int // unlike in the highest bits alone
	lowest    int // unlike in the lowest bits alone, all others set
	middle    int // unlike in the middle alone
	few       int // seven hashes, far from each other
	ends      int // the least and the greatest one
	scattered int // unlike everywhere
	falling   int // from the greatest one down
)

func (k same) Hash() uint64      { return 0x1234567890abcdef }
func (k nought) Hash() uint64    { return 0 }
func (k greatest) Hash() uint64  { return math.MaxUint64 }
func (k highest) Hash() uint64   { return uint64(k) << 48 }
func (k lowest) Hash() uint64    { return uint64(k) | 0xffffffffffff0000 }
func (k middle) Hash() uint64    { return uint64(k) << 24 }
func (k few) Hash() uint64       { return uint64(k%7) * (math.MaxUint64 / 6) }
func (k ends) Hash() uint64      { return -uint64(k & 1) }
func (k scattered) Hash() uint64 { return uint64(k) * 0xd1342543de82ef95 }
func (k falling) Hash() uint64   { return ^uint64(k) }

// More types of keys.
type (
	word   string
	yes    bool
	half   float64
	row    [3]uint16
	record struct{ name string }
	hasher interface{ Hash() uint64 } // may be nil, or a list
	list   []int
	angry  int
	whole  struct{}
)

func (k word) Hash() uint64    { return uint64(len(k)) }
func (k yes) Hash() uint64     { return 5 }
func (k half) Hash() uint64    { return math.Float64bits(float64(k)) }
func (k row) Hash() uint64     { return uint64(k[0]) ^ uint64(k[1]) ^ uint64(k[2]) }
func (k *record) Hash() uint64 { return uint64(len(k.name)) }
func (k list) Hash() uint64    { return 3 }
func (k whole) Hash() uint64   { return 1 << 63 }
func (k angry) Hash() uint64 {
	if k < 0 {
		panic("no hash")
	}
	return 3
}

// model does what the chapter says of an index, by a list of keys and one of numbers.
type model[K Key] struct {
	keys []K
	ids  []uint32
}

func (m *model[K]) put(k K, id uint32) (uint32, bool) {
	if i := slices.Index(m.keys, k); i >= 0 {
		old := m.ids[i]
		m.ids[i] = id
		return old, true
	}
	m.keys = append(m.keys, k)
	m.ids = append(m.ids, id)
	return 0, false
}

func (m *model[K]) get(k K) (uint32, bool) {
	if i := slices.Index(m.keys, k); i >= 0 {
		return m.ids[i], true
	}
	return 0, false
}

func (m *model[K]) drop(k K) bool {
	i := slices.Index(m.keys, k)
	if i < 0 {
		return false
	}
	m.keys = slices.Delete(m.keys, i, i+1)
	m.ids = slices.Delete(m.ids, i, i+1)
	return true
}

// checkPut: Put tells this.
func checkPut[K Key](t *testing.T, what string, x *Index[K], k K, id, want uint32, had bool) {
	t.Helper()
	if old, ok := x.Put(k, id); old != want || ok != had {
		t.Errorf("%s: Put(%v, %d): %d, %v; not %d, %v", what, k, id, old, ok, want, had)
	}
}

// checkGet: the key has this number.
func checkGet[K Key](t *testing.T, what string, x *Index[K], k K, want uint32) {
	t.Helper()
	if id, ok := x.Get(k); id != want || !ok {
		t.Errorf("%s: Get(%v): %d, %v; not %d, true", what, k, id, ok, want)
	}
}

// checkNone: the key has no number, and there are so many others.
func checkNone[K Key](t *testing.T, what string, x *Index[K], k K, count int) {
	t.Helper()
	for range 2 {
		if id, ok := x.Get(k); id != 0 || ok {
			t.Errorf("%s: Get(%v): %d, %v", what, k, id, ok)
		}
		if x.Drop(k) {
			t.Errorf("%s: Drop(%v): true", what, k)
		}
	}
	checkLen(t, what, x, count)
}

// checkLen: so many keys have a number.
func checkLen[K Key](t *testing.T, what string, x *Index[K], want int) {
	t.Helper()
	if count := x.Len(); count != want {
		t.Errorf("%s: Len: %d, not %d", what, count, want)
	}
}

// checkIs: the index tells of each of these keys what the model does.
func checkIs[K Key](t *testing.T, what string, x *Index[K], m *model[K], keys []K) {
	t.Helper()
	if x.Len() != len(m.keys) {
		t.Fatalf("%s: Len: %d, not %d", what, x.Len(), len(m.keys))
	}
	for _, k := range keys {
		id, ok := x.Get(k)
		want, has := m.get(k)
		if id != want || ok != has {
			t.Fatalf("%s: Get(%v): %d, %v; not %d, %v", what, k, id, ok, want, has)
		}
	}
}

// filled: an index in which each of these keys has its place in the list.
func filled[K Key](t *testing.T, what string, keys []K) *Index[K] {
	t.Helper()
	x := New[K]()
	for i, k := range keys {
		checkPut(t, what, x, k, uint32(i), 0, false)
	}
	checkLen(t, what, x, len(keys))
	return x
}

// counted: so many keys that are numbers.
func counted[K ~int](count int) []K {
	l := make([]K, count)
	for i := range l {
		l[i] = K(i)
	}
	return l
}

// places: so many keys of several parts, each like others in all parts but one.
func places(count int) []place {
	l := make([]place, count)
	for i := range l {
		at := uint32(i / 8)
		l[i] = place{name: []string{"", "a"}[i%2], level: uint8(i / 2 % 2), edges: [2]api.Edge{{Tag: uint8(i / 4 % 2)}, {At: at}}}
	}
	return l
}

func TestNew(t *testing.T) { // P7.1: without keys
	x := New[number]()
	if x == nil {
		t.Fatal("New: nil")
	}
	for _, k := range []number{0, 1, -1, math.MaxInt, math.MinInt} {
		checkNone(t, "New", x, k, 0)
	}
	y := New[place]()
	for _, k := range places(9) {
		checkNone(t, "New, keys of several parts", y, k, 0)
	}
	x.Clear()
	checkNone(t, "New, cleared", x, 0, 0)
	checkPut(t, "New, cleared", x, 0, 3, 0, false)
	checkGet(t, "New, cleared", x, 0, 3)
}

func TestExample(t *testing.T) { // the chapter's Examples
	x := New[number]()
	checkPut(t, "example", x, 1, 5, 0, false)
	checkPut(t, "example", x, 1, 6, 5, true)
	checkGet(t, "example", x, 1, 6)
}

// checkOne: an index with a key, put, put again, dropped, put again, cleared, put again; the other key is never put.
func checkOne[K Key](t *testing.T, what string, k, other K) {
	t.Helper()
	x := New[K]()
	checkPut(t, what, x, k, 7, 0, false)
	checkGet(t, what, x, k, 7)
	checkNone(t, what, x, other, 1)
	checkPut(t, what+", the same number", x, k, 7, 7, true)
	checkGet(t, what+", the same number", x, k, 7)
	checkPut(t, what+", another number", x, k, 8, 7, true)
	checkGet(t, what+", another number", x, k, 8)
	checkPut(t, what+", the first number", x, k, 7, 8, true)
	checkGet(t, what+", the first number", x, k, 7)
	checkLen(t, what, x, 1)
	if !x.Drop(k) || x.Drop(k) || x.Drop(k) {
		t.Errorf("%s: doesn't go once", what)
	}
	checkNone(t, what+", dropped", x, k, 0)
	checkNone(t, what+", dropped", x, other, 0)
	checkPut(t, what+", dropped", x, k, 9, 0, false)
	checkGet(t, what+", put again", x, k, 9)
	checkLen(t, what+", put again", x, 1)
	x.Clear()
	checkNone(t, what+", cleared", x, k, 0)
	checkPut(t, what+", cleared", x, k, 1, 0, false)
	checkGet(t, what+", cleared and put", x, k, 1)
	checkNone(t, what+", cleared and put", x, other, 1)
	if !x.Drop(k) {
		t.Errorf("%s: doesn't go when it was cleared and put", what)
	}
	checkNone(t, what+", dropped at the end", x, k, 0)
}

func TestOneKey(t *testing.T) { // P7.1: keys of each kind, zero values among them
	checkOne[number](t, "number", 5, 6)
	checkOne[number](t, "number 0", 0, 1)
	checkOne[number](t, "least number", math.MinInt, math.MaxInt)
	checkOne(t, "place", place{name: "a", level: 3}, place{name: "a", level: 4})
	checkOne(t, "no place", place{}, place{name: "a"})
	checkOne(t, "place's last part", place{edges: [2]api.Edge{{}, {At: 1}}}, place{edges: [2]api.Edge{{}, {At: 2}}})
	checkOne[same](t, "one hash", 1, 2)
	checkOne[nought](t, "hash 0", 1, 2)
	checkOne[greatest](t, "hash 2^64 - 1", 1, 2)
	checkOne[ends](t, "hash 2^64 - 1 and 0", 1, 2)
	checkOne[word](t, "text", "ab", "ba")
	checkOne[word](t, "no text", "", "a")
	checkOne[yes](t, "bool", true, false)
	checkOne[half](t, "float", 0.5, half(math.Inf(1)))
	checkOne(t, "array", row{1, 2, 3}, row{3, 2, 1})
	checkOne(t, "pointer", &record{"a"}, &record{"a"})
	checkOne[hasher](t, "interface", number(3), same(3))
	checkOne[hasher](t, "pointer in an interface", &record{"abc"}, &record{"abc"})
}

func TestKeyOfNoParts(t *testing.T) { // P7.1
	x := New[whole]()
	checkPut(t, "struct{}", x, whole{}, 4, 0, false)
	checkPut(t, "struct{}", x, whole{}, 5, 4, true)
	checkGet(t, "struct{}", x, whole{}, 5)
	if x.Len() != 1 || !x.Drop(whole{}) || x.Drop(whole{}) || x.Len() != 0 {
		t.Error("a key without parts doesn't go once")
	}
}

func TestNumbersAtTheirEnds(t *testing.T) { // P7.1: 0 and 2^32 - 1 are numbers as all are
	x := New[number]()
	checkPut(t, "0", x, 1, 0, 0, false)
	checkGet(t, "0", x, 1, 0)
	checkPut(t, "0, then 0", x, 1, 0, 0, true)
	checkPut(t, "0, then 2^32 - 1", x, 1, math.MaxUint32, 0, true)
	checkGet(t, "2^32 - 1", x, 1, math.MaxUint32)
	checkPut(t, "2^32 - 1, then itself", x, 1, math.MaxUint32, math.MaxUint32, true)
	checkPut(t, "another key", x, 2, math.MaxUint32, 0, false)
	checkPut(t, "2^32 - 1, then 0", x, 1, 0, math.MaxUint32, true)
	checkGet(t, "0 again", x, 1, 0)
	checkGet(t, "the other key", x, 2, math.MaxUint32)
	checkLen(t, "two keys", x, 2)
	if !x.Drop(1) || !x.Drop(2) || x.Len() != 0 {
		t.Error("keys with 0 and 2^32 - 1 don't go")
	}
}

func TestUnlikeKeysOfOneNumber(t *testing.T) { // P7.1
	x := New[number]()
	for i := range number(50) {
		checkPut(t, "one number for all", x, i, 9, 0, false)
	}
	if !x.Drop(20) || x.Len() != 49 {
		t.Error("one of 50 doesn't go")
	}
	for i := range number(50) {
		if i != 20 {
			checkGet(t, "one number for all", x, i, 9)
		}
	}
	checkNone(t, "one number for all", x, 20, 49)
}

// checkFew: of a few keys each one goes by itself, from wherever it stands among them.
func checkFew[K Key](t *testing.T, what string, keys []K) {
	t.Helper()
	for gone := range keys {
		x := filled(t, what, keys)
		if !x.Drop(keys[gone]) {
			t.Errorf("%s: Drop(%v): false", what, keys[gone])
		}
		checkNone(t, what, x, keys[gone], len(keys)-1)
		for i, k := range keys {
			if i != gone {
				checkGet(t, what, x, k, uint32(i))
				checkPut(t, what, x, k, uint32(i+100), uint32(i), true)
			}
		}
		checkPut(t, what, x, keys[gone], uint32(gone+100), 0, false)
		for i, k := range keys {
			checkGet(t, what, x, k, uint32(i+100))
		}
		checkLen(t, what, x, len(keys))
	}
}

// checkMany: of many keys each second one is dropped, then put again; then all are cleared, and put again.
func checkMany[K Key](t *testing.T, what string, keys []K) {
	t.Helper()
	x := filled(t, what, keys)
	for i, k := range keys {
		checkGet(t, what, x, k, uint32(i))
		checkPut(t, what, x, k, uint32(2*i), uint32(i), true)
	}
	for i := 0; i < len(keys); i += 2 {
		if !x.Drop(keys[i]) || x.Drop(keys[i]) {
			t.Errorf("%s: %v doesn't go once", what, keys[i])
		}
	}
	checkLen(t, what, x, len(keys)/2)
	for i, k := range keys {
		if id, ok := x.Get(k); ok != (i%2 == 1) || ok && id != uint32(2*i) {
			t.Errorf("%s, each second one dropped: Get(%v): %d, %v", what, k, id, ok)
		}
	}
	for i := 0; i < len(keys); i += 2 {
		checkPut(t, what, x, keys[i], uint32(3*i), 0, false)
	}
	for i, k := range keys {
		checkGet(t, what+", put again", x, k, uint32((3-i%2)*i))
	}
	checkLen(t, what+", put again", x, len(keys))
	x.Clear()
	for _, k := range keys {
		checkNone(t, what+", cleared", x, k, 0)
	}
	for i, k := range keys {
		checkPut(t, what+", cleared", x, k, uint32(i+1), 0, false)
	}
	for i := len(keys) - 1; i >= 0; i-- {
		checkGet(t, what+", cleared and put", x, keys[i], uint32(i+1))
		if !x.Drop(keys[i]) || x.Len() != i {
			t.Errorf("%s: Drop(%v), then %d keys", what, keys[i], x.Len())
		}
	}
}

func TestHashes(t *testing.T) { // P7.2: each key is found, whatever the hashes are
	checkFew(t, "one hash", counted[same](12))
	checkFew(t, "hash 0", counted[nought](12))
	checkFew(t, "hash 2^64 - 1", counted[greatest](12))
	checkFew(t, "hashes 0 and 2^64 - 1", counted[ends](12))
	checkFew(t, "a hash for each", counted[number](20))
	checkFew(t, "unlike in the highest bits", counted[highest](20))
	checkFew(t, "unlike in the lowest bits", counted[lowest](20))
	checkFew(t, "seven hashes", counted[few](30))
	checkFew(t, "several parts", places(30))
	checkMany(t, "one hash", counted[same](2000))
	checkMany(t, "hash 0", counted[nought](1000))
	checkMany(t, "hash 2^64 - 1", counted[greatest](1000))
	checkMany(t, "hashes 0 and 2^64 - 1", counted[ends](1000))
	checkMany(t, "a hash for each", counted[number](20000))
	checkMany(t, "unlike in the highest bits", counted[highest](20000))
	checkMany(t, "unlike in the lowest bits", counted[lowest](20000))
	checkMany(t, "unlike in the middle", counted[middle](20000))
	checkMany(t, "seven hashes", counted[few](3000))
	checkMany(t, "scattered", counted[scattered](20000))
	checkMany(t, "falling", counted[falling](20000))
	checkMany(t, "several parts", places(20000))
}

func TestEachCount(t *testing.T) { // P7.2: however many keys there are
	for count := range 140 {
		checkMany(t, fmt.Sprint(count, " keys"), counted[number](count))
		checkMany(t, fmt.Sprint(count, " keys of one hash"), counted[same](count))
	}
	for _, count := range []int{255, 256, 257, 1023, 1024, 1025} {
		checkMany(t, fmt.Sprint(count, " keys of several parts"), places(count))
	}
}

func TestAsManyAsNodes(t *testing.T) { // P7.2: 2^20 keys
	x := New[scattered]()
	for k := range scattered(api.MaxRoom) {
		if old, ok := x.Put(k, uint32(k)+2); old != 0 || ok {
			t.Fatalf("Put(%d): %d, %v", k, old, ok)
		}
	}
	checkLen(t, "2^20 keys", x, api.MaxRoom)
	for k := range scattered(api.MaxRoom) {
		if id, ok := x.Get(k); id != uint32(k)+2 || !ok {
			t.Fatalf("Get(%d): %d, %v", k, id, ok)
		}
	}
	checkNone(t, "2^20 keys", x, api.MaxRoom, api.MaxRoom)
	checkNone(t, "2^20 keys", x, -1, api.MaxRoom)
}

func TestUnlikeKeysOfOneHash(t *testing.T) { // P7.2: a key's own parts count, not its hash
	x := New[hasher]()
	keys := []hasher{number(3), scattered(0), few(0), nought(3), nought(4), number(0), ends(2), &record{""}, &record{""}, word("abc"), &record{"abc"}}
	for i, k := range keys {
		checkPut(t, "keys of many types", x, k, uint32(i), 0, false)
	}
	for i, k := range keys {
		checkGet(t, "keys of many types", x, k, uint32(i))
	}
	checkNone(t, "keys of many types", x, hasher(nought(5)), len(keys))
	checkNone(t, "keys of many types", x, hasher(&record{""}), len(keys))
	checkNone(t, "keys of many types", x, hasher(angry(3)), len(keys))
}

func TestNeverPut(t *testing.T) { // P7.1: wrong inputs at Get and Drop change nothing
	x, y := filled(t, "100 keys", counted[same](100)), filled(t, "100 places", places(100))
	for i := range 100 {
		checkNone(t, "never put", x, same(100+i), 100)
		checkNone(t, "never put", x, same(-1-i), 100)
		checkNone(t, "never put", y, places(300)[150+i], 100)
	}
	for _, k := range []same{math.MaxInt, math.MinInt} {
		checkNone(t, "never put", x, k, 100)
	}
	for i, k := range places(100) {
		checkGet(t, "behind wrong inputs", x, same(i), uint32(i))
		checkGet(t, "behind wrong inputs", y, k, uint32(i))
	}
}

// checkNil: of a nil index nothing is told, and nothing is done.
func checkNil[K Key](t *testing.T, what string, k K) {
	t.Helper()
	var x *Index[K]
	for range 2 {
		checkNone(t, what, x, k, 0)
		checkPut(t, what, x, k, 3, 0, false)
		checkPut(t, what, x, k, 0, 0, false)
		x.Clear()
		checkLen(t, what, x, 0)
	}
	if x != nil {
		t.Errorf("%s: it is one now", what)
	}
}

func TestNilIndex(t *testing.T) { // P7.1
	checkNil(t, "nil, of numbers", number(3))
	checkNil(t, "nil, of several parts", place{name: "a"})
	checkNil(t, "nil, of one hash", same(0))
	checkNil(t, "nil, of texts", word(""))
	checkNil(t, "nil, of pointers", &record{})
	checkNil(t, "nil, of nil pointers", (*record)(nil))
	checkNil(t, "nil, of interfaces", hasher(nil))
	checkNil(t, "nil, of no keys", angry(-1))
}

// checkNoKey: a value that is no key has never a number; all keys have theirs.
func checkNoKey[K Key](t *testing.T, what string, no K, keys ...K) {
	t.Helper()
	x := New[K]()
	checkNone(t, what, x, no, 0)
	checkPut(t, what, x, no, 1, 0, false)
	checkNone(t, what, x, no, 0)
	x = filled(t, what, keys)
	for range 2 {
		checkPut(t, what, x, no, 1, 0, false)
		checkNone(t, what, x, no, len(keys))
	}
	for i, k := range keys {
		checkGet(t, what, x, k, uint32(i))
	}
}

// pair is a key of two parts of which either may be anything.
type pair struct{ a, b any }

func (k pair) Hash() uint64 { return 3 }

func TestNoKeys(t *testing.T) { // R1: nothing panics, though a value's hash, or holding it against others, does
	checkNoKey(t, "a hash that panics", angry(-1), 0, 1, 2)
	checkNoKey(t, "a nil pointer", nil, &record{"a"}, &record{"b"}, &record{"c"})
	checkNoKey[hasher](t, "a nil interface", nil, number(3), same(3), same(0))
	checkNoKey[hasher](t, "a nil pointer in an interface", (*record)(nil), &record{"abc"}, number(3))
	checkNoKey[hasher](t, "a list", list{1}, number(3), angry(4), pair{1, 2})
	checkNoKey[hasher](t, "a list in a part", pair{1, []int{2}}, number(3), pair{1, 2}, pair{1, "2"}, pair{[1]int{1}, nil})
	checkNoKey(t, "a list in a part, others alike", pair{1, []int{2}}, pair{1, 2}, pair{1, nil}, pair{2, 1}, pair{})
	checkNoKey(t, "a map in the first part", pair{map[int]int{}, 1}, pair{1, 1}, pair{})
	checkNoKey(t, "a number that is unlike itself", half(math.NaN()), 0, 1, half(math.Inf(-1)))
	checkNoKey(t, "a part that is unlike itself", pair{math.NaN(), 1}, pair{0.5, 1}, pair{1, 0.5})
}

// asking is a key whose hash asks the index itself.
type asking struct {
	x  *Index[asking]
	at int
}

func (k asking) Hash() uint64 {
	if k.at > 0 {
		k.x.Put(asking{k.x, k.at - 1}, uint32(k.at))
		k.x.Drop(asking{k.x, k.at - 1})
	}
	return 3
}

func TestHashThatAsksTheIndex(t *testing.T) { // R1
	x := New[asking]()
	for at := range 6 {
		checkPut(t, "asking", x, asking{x, at}, uint32(at), 0, false)
		checkGet(t, "asking", x, asking{x, at}, uint32(at))
	}
	checkLen(t, "asking, each hash dropping the key ahead", x, 1)
}

// hashes tells how often a moody key was asked for its hash.
var hashes int

// moody is a key whose hash is never the same.
type moody int

func (k moody) Hash() uint64 {
	hashes++
	return uint64(hashes)
}

func TestHashThatIsNeverTheSame(t *testing.T) { // R1: what is told then isn't said, but each call ends
	x := New[moody]()
	for i := range 1000 {
		x.Put(moody(i%10), uint32(i))
		x.Get(moody(i % 10))
		x.Drop(moody(i % 7))
	}
	x.Clear()
	checkLen(t, "cleared", x, 0)
}

func TestClear(t *testing.T) { // P7.1
	x := filled(t, "100 keys", counted[few](100))
	for round := range 5 {
		what := fmt.Sprint("round ", round)
		x.Clear()
		for i := range few(100) {
			checkNone(t, what, x, i, 0)
		}
		x.Clear()
		checkLen(t, what+", cleared twice", x, 0)
		count := few(100 >> round)
		for i := range count {
			checkPut(t, what, x, i, uint32(round), 0, false)
		}
		checkLen(t, what, x, int(count))
		for i := range count {
			checkGet(t, what, x, i, uint32(round))
		}
		checkNone(t, what, x, count, int(count))
	}
}

func TestNotMadeByNew(t *testing.T) { // R1
	var x Index[place]
	for i, k := range places(40) {
		checkNone(t, "not made by New", &x, k, i)
		checkPut(t, "not made by New", &x, k, uint32(i), 0, false)
		checkGet(t, "not made by New", &x, k, uint32(i))
	}
	x.Clear()
	checkLen(t, "not made by New, cleared", &x, 0)
}

func TestIndexesApart(t *testing.T) { // R6: nothing is kept but in the index itself
	x, y := filled(t, "one", counted[number](20)), filled(t, "other", counted[number](10))
	x.Put(3, 99)
	y.Drop(4)
	checkGet(t, "other", y, 3, 3)
	checkGet(t, "one", x, 4, 4)
	x.Clear()
	checkLen(t, "other", y, 9)
	checkNone(t, "one", x, 3, 0)
	checkNone(t, "other, another index", filled(t, "third", []number{7}), 3, 1)
}

func TestKeysArePutAsTheyAre(t *testing.T) { // R4: a key that is changed outside is another one
	x := New[row]()
	k := row{1, 2, 3}
	x.Put(k, 5)
	k[0] = 9
	checkNone(t, "changed", x, k, 1)
	checkGet(t, "as it was", x, row{1, 2, 3}, 5)
}

// leave puts keys into x of which one is dropped, and the rest are cleared, if asked for: nobody else has them then.
func leave(x *Index[*record], clear bool) []weak.Pointer[record] {
	first, second := &record{"x"}, &record{"y"}
	x.Put(first, 1)
	x.Put(second, 2)
	x.Drop(first)
	if !clear {
		return []weak.Pointer[record]{weak.Make(first)}
	}
	x.Clear()
	return []weak.Pointer[record]{weak.Make(first), weak.Make(second)}
}

func TestWhatWentIsNotKept(t *testing.T) { // nothing is kept that no promise needs
	for _, clear := range []bool{false, true} {
		x := New[*record]()
		gone := leave(x, clear)
		runtime.GC()
		runtime.GC()
		for i, k := range gone {
			if k.Value() != nil {
				t.Errorf("cleared %v: key %d went, and is still kept", clear, i)
			}
		}
		runtime.KeepAlive(x)
	}
}

// step does one thing to the index and to the model, and holds the answers against each other.
func step[K Key](t *testing.T, source *rand.Rand, x *Index[K], m *model[K], keys []K) {
	t.Helper()
	k := keys[source.Intn(len(keys))]
	id := []uint32{0, 1, 2, math.MaxUint32, source.Uint32()}[source.Intn(5)]
	var got, want string
	switch chance := source.Intn(100); {
	case chance < 45:
		one, ok := x.Put(k, id)
		other, has := m.put(k, id)
		got, want = fmt.Sprint("Put ", k, one, ok), fmt.Sprint("Put ", k, other, has)
	case chance < 65:
		one, ok := x.Get(k)
		other, has := m.get(k)
		got, want = fmt.Sprint("Get ", k, one, ok), fmt.Sprint("Get ", k, other, has)
	case chance < 99:
		got, want = fmt.Sprint("Drop ", k, x.Drop(k)), fmt.Sprint("Drop ", k, m.drop(k))
	case source.Intn(4) == 0:
		x.Clear()
		*m = model[K]{}
	}
	if got != want || x.Len() != len(m.keys) {
		t.Fatalf("%s, not %s; %d keys, not %d", got, want, x.Len(), len(m.keys))
	}
}

// checkLong: a long run of calls tells what a plain list tells.
func checkLong[K Key](t *testing.T, what string, keys []K) {
	t.Helper()
	for seed := range int64(6) {
		source := rand.New(rand.NewSource(seed))
		x, m := New[K](), &model[K]{}
		for i := range 1500 {
			step(t, source, x, m, keys)
			if i%50 == 0 || len(keys) < 10 {
				checkIs(t, fmt.Sprintf("%s, seed %d, step %d", what, seed, i), x, m, keys)
			}
		}
		checkIs(t, fmt.Sprintf("%s, seed %d", what, seed), x, m, keys)
	}
}

func TestAgainstThePlainList(t *testing.T) { // P7.1, P7.2
	checkLong(t, "one key", counted[number](1))
	checkLong(t, "five of one hash", counted[same](5))
	checkLong(t, "a hash for each", counted[number](200))
	checkLong(t, "one hash", counted[same](100))
	checkLong(t, "hash 0", counted[nought](100))
	checkLong(t, "hash 2^64 - 1", counted[greatest](100))
	checkLong(t, "hashes 0 and 2^64 - 1", counted[ends](100))
	checkLong(t, "unlike in the highest bits", counted[highest](200))
	checkLong(t, "unlike in the lowest bits", counted[lowest](200))
	checkLong(t, "seven hashes", counted[few](200))
	checkLong(t, "scattered", counted[scattered](200))
	checkLong(t, "several parts", places(200))
	checkLong(t, "many types", []hasher{number(1), same(1), few(1), highest(1), word("a"), &record{"a"}, &record{"a"}, ends(1), number(0), pair{1, "a"}, pair{"a", 1}})
}
