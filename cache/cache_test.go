package cache

import (
	"fmt"
	"math"
	"math/rand"
	"runtime"
	"slices"
	"strings"
	"testing"
	"weak"

	"ramage/api"
	"ramage/index"
)

// number is a key that is a number, and its own hash.
type number int

func (k number) Hash() uint64 { return uint64(k) }

// question is a key of several parts.
type question struct {
	name   string
	op     uint8
	f, g   api.Edge
	levels [2]uint8
}

func (k question) Hash() uint64 {
	h := uint64(k.op)
	for _, b := range []byte(k.name) {
		h = 31*h + uint64(b)
	}
	for _, e := range []api.Edge{k.f, k.g} {
		h = 31*(31*h+uint64(e.Tag)) + uint64(e.At)
	}
	return 31*(31*h+uint64(k.levels[0])) + uint64(k.levels[1])
}

// Keys that are numbers, with hashes of each kind.
type (
	same     int // one hash for all
	nought   int // the least one
	greatest int // the greatest one
	highest  int // unlike in the highest bits alone
	few      int // seven hashes, far from each other
	ends     int // the least and the greatest one
	falling  int // from the greatest one down
)

func (k same) Hash() uint64     { return 0x1234567890abcdef }
func (k nought) Hash() uint64   { return 0 }
func (k greatest) Hash() uint64 { return math.MaxUint64 }
func (k highest) Hash() uint64  { return uint64(k) << 48 }
func (k few) Hash() uint64      { return uint64(k%7) * (math.MaxUint64 / 6) }
func (k ends) Hash() uint64     { return -uint64(k & 1) }
func (k falling) Hash() uint64  { return ^uint64(k) }

// More types of keys.
type (
	word   string
	yes    bool
	half   float64
	row    [3]uint16
	record struct{ name string }
	hasher interface{ Hash() uint64 } // may be nil, or a list
	list   []int
	angry  int
	whole  struct{}
	pair   struct{ a, b any } // either part may be anything
)

func (k word) Hash() uint64    { return uint64(len(k)) }
func (k yes) Hash() uint64     { return 5 }
func (k half) Hash() uint64    { return math.Float64bits(float64(k)) }
func (k row) Hash() uint64     { return uint64(k[0]) ^ uint64(k[1]) ^ uint64(k[2]) }
func (k *record) Hash() uint64 { return uint64(len(k.name)) }
func (k list) Hash() uint64    { return 3 }
func (k whole) Hash() uint64   { return 1 << 63 }
func (k pair) Hash() uint64    { return 3 }
func (k angry) Hash() uint64 {
	if k < 0 {
		panic("no hash")
	}
	return 3
}

// put is a key with its answer.
type put[K index.Key, V any] struct {
	k K
	v V
}

// model does what the chapter says of a cache, by a list of all that was put since it was made or flushed.
type model[K index.Key, V any] struct {
	count  uint64 // of places
	puts   []put[K, V]
	hits   int
	misses int
	epoch  int
}

func (m *model[K, V]) get(k K) (V, bool) {
	for _, p := range slices.Backward(m.puts) {
		if p.k.Hash()%m.count != k.Hash()%m.count {
			continue
		}
		if p.k == k {
			m.hits++
			return p.v, true
		}
		break
	}
	m.misses++
	var none V
	return none, false
}

func (m *model[K, V]) flush() {
	m.puts = nil
	m.epoch++
}

// made: a cache of so many bits.
func made[K index.Key, V any](t *testing.T, bits int) *Cache[K, V] {
	t.Helper()
	c, e := New[K, V](bits)
	if c == nil || e != api.OK {
		t.Fatalf("New(%d): %v, %v", bits, c, e)
	}
	checkCounts(t, fmt.Sprint("New of bits ", bits), c, 0, 0, 0)
	return c
}

// checkCounts: so many hits, misses and flushes.
func checkCounts[K index.Key, V any](t *testing.T, what string, c *Cache[K, V], hits, misses, epoch int) {
	t.Helper()
	for range 2 {
		if c.Hits() != hits || c.Misses() != misses || c.Epoch() != epoch {
			t.Fatalf("%s: hits, misses, epoch %d, %d, %d; not %d, %d, %d", what, c.Hits(), c.Misses(), c.Epoch(), hits, misses, epoch)
		}
	}
}

// checkGet: the key has this answer; and it is counted.
func checkGet[K index.Key, V comparable](t *testing.T, what string, c *Cache[K, V], k K, want V) {
	t.Helper()
	hits, misses, epoch := c.Hits(), c.Misses(), c.Epoch()
	if v, ok := c.Get(k); v != want || !ok {
		t.Errorf("%s: Get(%v): %v, %v; not %v, true", what, k, v, ok, want)
	}
	checkCounts(t, what, c, hits+1, misses, epoch)
}

// checkNone: the key has no answer; and it is counted.
func checkNone[K index.Key, V comparable](t *testing.T, what string, c *Cache[K, V], k K) {
	t.Helper()
	var none V
	hits, misses, epoch := c.Hits(), c.Misses(), c.Epoch()
	for i := range 2 {
		if v, ok := c.Get(k); v != none || ok {
			t.Errorf("%s: Get(%v): %v, %v", what, k, v, ok)
		}
		checkCounts(t, what, c, hits, misses+i+1, epoch)
	}
}

// checkPut: Put counts nothing, and the answer is told then.
func checkPut[K index.Key, V comparable](t *testing.T, what string, c *Cache[K, V], k K, v V) {
	t.Helper()
	hits, misses, epoch := c.Hits(), c.Misses(), c.Epoch()
	c.Put(k, v)
	checkCounts(t, what, c, hits, misses, epoch)
	checkGet(t, what, c, k, v)
}

// checkFlush: Flush counts one flush alone.
func checkFlush[K index.Key, V any](t *testing.T, what string, c *Cache[K, V]) {
	t.Helper()
	hits, misses, epoch := c.Hits(), c.Misses(), c.Epoch()
	c.Flush()
	checkCounts(t, what, c, hits, misses, epoch+1)
}

func TestNew(t *testing.T) { // P8.1: each number of bits that can be, nothing put
	for bits := range 21 {
		c := made[number, int](t, bits)
		for _, k := range []number{0, 1, -1, 1 << 20, math.MaxInt, math.MinInt} {
			checkNone(t, "nothing put", c, k)
		}
		checkFlush(t, "nothing put", c)
		checkNone(t, "nothing put, flushed", c, 0)
		checkPut(t, "flushed", c, 0, 5)
	}
}

func TestWrongBits(t *testing.T) { // P8.1: Arg, and no cache
	for _, bits := range []int{-1, -2, -20, -64, 21, 22, 32, 63, 64, 65, 1 << 32, 1<<32 + 3, math.MaxInt, math.MinInt, math.MinInt + 3} {
		if c, e := New[number, int](bits); c != nil || e != api.Arg {
			t.Errorf("New(%d): %v, %v", bits, c, e)
		}
		if c, e := New[question, string](bits); c != nil || e != api.Arg {
			t.Errorf("New(%d): %v, %v", bits, c, e)
		}
	}
}

func TestExample(t *testing.T) { // the chapter's Examples
	c := made[number, string](t, 0)
	checkPut(t, "example", c, 1, "a")
	checkPut(t, "example", c, 2, "b")
	checkNone(t, "example", c, 1)
	checkGet(t, "example", c, 2, "b")
	checkCounts(t, "example", c, 3, 2, 0)
}

// checkOne: a key with its answer, put again with others, pushed out, flushed; the other key has the same place where there is but one.
func checkOne[K index.Key, V comparable](t *testing.T, what string, k, other K, v, w V) {
	t.Helper()
	var none V
	for _, bits := range []int{0, 3, 12} {
		c := made[K, V](t, bits)
		checkNone(t, what, c, k)
		checkPut(t, what, c, k, v)
		checkNone(t, what, c, other)
		checkGet(t, what+", another asked", c, k, v)
		checkPut(t, what+", the same answer", c, k, v)
		checkPut(t, what+", another answer", c, k, w)
		checkPut(t, what+", the first answer", c, k, v)
		checkPut(t, what+", the zero value", c, k, none)
		checkPut(t, what+", the first answer", c, k, v)
		checkPut(t, what+", the other key", c, other, w)
		if bits == 0 {
			checkNone(t, what+", pushed out", c, k)
		}
		checkPut(t, what+", put again", c, k, w)
		checkFlush(t, what, c)
		checkNone(t, what+", flushed", c, k)
		checkNone(t, what+", flushed", c, other)
		checkPut(t, what+", put behind the flush", c, k, v)
		checkNone(t, what+", put behind the flush", c, other)
		checkFlush(t, what, c)
		checkFlush(t, what, c)
		checkNone(t, what+", flushed again", c, k)
		checkPut(t, what+", the zero value behind the flush", c, k, none)
	}
}

func TestOneKey(t *testing.T) { // P8.1: keys and answers of each kind, zero values among them
	checkOne[number](t, "number", 5, 6, 1, 2)
	checkOne[number](t, "number 0", 0, 1, "a", "b")
	checkOne[number](t, "least number", math.MinInt, math.MaxInt, math.MaxUint64, uint64(1))
	checkOne(t, "question", question{name: "a", op: 3}, question{name: "a", op: 4}, api.Edge{Tag: 1, At: 7}, api.Edge{At: 7})
	checkOne(t, "no question", question{}, question{name: "a"}, true, false)
	checkOne(t, "last part", question{levels: [2]uint8{0, 1}}, question{levels: [2]uint8{0, 2}}, 0.5, math.Inf(-1))
	checkOne[same](t, "one hash", 1, 2, "a", "")
	checkOne[nought](t, "hash 0", 1, 2, [2]string{"a"}, [2]string{"", "a"})
	checkOne[greatest](t, "hash 2^64 - 1", 1, 2, 0, -1)
	checkOne[ends](t, "hash 2^64 - 1 and 0", 1, 2, math.MinInt, math.MaxInt)
	checkOne[ends](t, "hash 0 and 2^64 - 1", 0, 1, math.MinInt, math.MaxInt)
	checkOne[word](t, "text", "ab", "ba", &record{"a"}, &record{"a"})
	checkOne[word](t, "no text", "", "a", struct{}{}, struct{}{})
	checkOne[yes](t, "bool", true, false, 'a', 'b')
	checkOne[half](t, "float", 0.5, half(math.Inf(1)), word("a"), "b")
	checkOne(t, "array", row{1, 2, 3}, row{3, 2, 1}, row{1}, row{2})
	checkOne(t, "pointer", &record{"a"}, &record{"a"}, 1, 2)
	checkOne[hasher](t, "interface", number(3), same(3), any(1), any("a"))
	checkOne[hasher](t, "pointer in an interface", &record{"abc"}, &record{"abc"}, hasher(number(1)), hasher(same(1)))
}

func TestKeyOfNoParts(t *testing.T) { // P8.1
	c := made[whole, int](t, 2)
	checkNone(t, "struct{}", c, whole{})
	checkPut(t, "struct{}", c, whole{}, 4)
	checkPut(t, "struct{}", c, whole{}, 0)
	checkFlush(t, "struct{}", c)
	checkNone(t, "struct{}, flushed", c, whole{})
}

func TestZeroKeyNeverPut(t *testing.T) { // P8.1: an empty place has no key, the zero value neither
	for _, bits := range []int{0, 4, 20} {
		checkNone(t, "0 never put", made[number, int](t, bits), 0)
		checkNone(t, "no question put", made[question, string](t, bits), question{})
		checkNone(t, "struct{} never put", made[whole, struct{}](t, bits), whole{})
		checkNone(t, "no text put", made[word, *record](t, bits), "")
	}
}

func TestPlaces(t *testing.T) { // P8.1: a key's place is its hash, modulo the number of places
	for bits := range 21 {
		count := number(1) << bits
		c := made[number, string](t, bits)
		checkPut(t, "lowest place", c, 0, "0")
		checkPut(t, "highest place", c, count-1, "last")
		if bits > 0 {
			checkGet(t, "a place of its own", c, 0, "0")
		}
		checkPut(t, "same place as the lowest", c, count, "count")
		checkNone(t, "its place was taken", c, 0)
		checkPut(t, "same place as the highest", c, -1, "all bits")
		checkNone(t, "its place was taken", c, count-1)
		if bits > 0 {
			checkGet(t, "a place of its own", c, count, "count")
			checkGet(t, "a place of its own", c, -1, "all bits")
		}
		checkPut(t, "same place as the lowest", c, math.MinInt, "highest bit")
		checkNone(t, "its place was taken", c, count)
		checkNone(t, "long gone", c, 0)
		checkPut(t, "put again", c, 0, "again")
		checkNone(t, "its place was taken", c, math.MinInt)
	}
}

func TestEachPlace(t *testing.T) { // P8.1: as many keys as places stand, each at its own
	for _, bits := range []int{0, 1, 2, 5, 10, 20} {
		count := 1 << bits
		c := made[falling, int](t, bits)
		for k := range falling(count) {
			c.Put(k, int(k)+7)
		}
		for k := range falling(count) {
			if v, ok := c.Get(k); v != int(k)+7 || !ok {
				t.Fatalf("%d bits: Get(%d): %d, %v", bits, k, v, ok)
			}
			if v, ok := c.Get(k + falling(count)); v != 0 || ok {
				t.Fatalf("%d bits: Get(%d): %d, %v", bits, k+falling(count), v, ok)
			}
		}
		checkCounts(t, "each place", c, count, count, 0)
		for k := range falling(count / 2) {
			c.Put(k+falling(count), 1)
		}
		for k := range falling(count) {
			if _, ok := c.Get(k); ok != (int(k) >= count/2) {
				t.Fatalf("%d bits, half of the places taken: Get(%d): %v", bits, k, ok)
			}
		}
		checkFlush(t, "each place", c)
		for k := range falling(2 * count) {
			if v, ok := c.Get(k); v != 0 || ok {
				t.Fatalf("%d bits, flushed: Get(%d): %d, %v", bits, k, v, ok)
			}
		}
		checkCounts(t, "each place, flushed", c, count+count-count/2, count+count/2+2*count, 1)
	}
}

// checkPushedOut: of keys of one place the last one stands alone.
func checkPushedOut[K index.Key](t *testing.T, what string, bits int, keys []K) {
	t.Helper()
	c := made[K, int](t, bits)
	for round := range 3 {
		for i, k := range keys {
			checkPut(t, what, c, k, 10*round+i)
			for j, other := range keys {
				if j != i {
					checkNone(t, what, c, other)
				}
			}
			checkGet(t, what, c, k, 10*round+i)
		}
	}
}

func TestPushedOut(t *testing.T) { // P8.1, P8.2: unlike keys of one hash, or of one place
	checkPushedOut(t, "one hash", 8, []same{1, 2, 3, 0})
	checkPushedOut(t, "hash 0", 8, []nought{1, 2, 3, 0})
	checkPushedOut(t, "hash 2^64 - 1", 8, []greatest{1, 2, 3, 0})
	checkPushedOut(t, "unlike in the highest bits", 20, []highest{1, 2, 3, 0})
	checkPushedOut(t, "one place", 0, []number{1, 2, 3, 0})
	checkPushedOut(t, "one place", 0, []ends{1, 2})
	checkPushedOut(t, "one place of 8", 3, []number{5, 13, -3, 5 + 1<<40})
	checkPushedOut(t, "one place of 2^20", 20, []number{5, 5 + 1<<20, 5 + 1<<40, 5 - 1<<20})
	checkPushedOut(t, "texts", 20, []word{"ab", "ba", "aa", "bb"})
	checkPushedOut(t, "questions", 0, []question{{name: "a"}, {op: 1}, {f: api.Edge{At: 1}}, {g: api.Edge{Tag: 1}}, {levels: [2]uint8{1, 0}}, {}})
	checkPushedOut(t, "many types of one hash", 20, []hasher{number(0), nought(3), nought(4), few(0), few(7), ends(2), &record{""}, &record{""}, word("")})
	checkPushedOut(t, "many types", 0, []hasher{number(3), few(0), nought(3), nought(4), number(0), ends(2), &record{""}, &record{""}, word("abc"), &record{"abc"}, angry(3)})
}

func TestEveryEpoch(t *testing.T) { // P8.1: what was put ahead of a flush is never told again
	c := made[number, int](t, 4)
	for epoch := range 1000 {
		at := number(epoch % 16)
		checkNone(t, "ahead of the put", c, at)
		checkPut(t, "in its epoch", c, at, epoch)
		if epoch%3 == 0 {
			checkPut(t, "in its epoch", c, 3, -epoch)
		}
		checkFlush(t, "every epoch", c)
		for k := range number(16) {
			checkNone(t, "flushed", c, k)
		}
	}
	for range 1 << 17 {
		c.Flush()
	}
	for k := range number(16) {
		checkNone(t, "flushed 2^17 times", c, k)
	}
	if c.Epoch() != 1000+1<<17 {
		t.Errorf("Epoch: %d", c.Epoch())
	}
}

func TestNeverToldAgain(t *testing.T) { // P8.1: neither behind 2^8, 2^16 nor 2^20 flushes
	c := made[number, string](t, 1)
	c.Put(1, "ahead")
	for flushes := 1; flushes <= 1<<20+1; flushes++ {
		c.Flush()
		if v, ok := c.Get(1); v != "" || ok {
			t.Fatalf("flushed %d times: Get(1): %s, %v", flushes, v, ok)
		}
	}
	checkCounts(t, "flushed many times", c, 0, 1<<20+1, 1<<20+1)
	checkPut(t, "flushed many times", c, 1, "behind")
	checkNone(t, "flushed many times", c, 0)
}

func TestFlushKeepsPlacesApart(t *testing.T) { // P8.1: what is put behind a flush stands alone
	c := made[number, int](t, 2)
	for k := range number(4) {
		checkPut(t, "ahead", c, k, int(k))
	}
	checkFlush(t, "four keys", c)
	checkPut(t, "behind", c, 2, 20)
	checkPut(t, "behind", c, 7, 70)
	for _, k := range []number{0, 1, 3} {
		checkNone(t, "put ahead alone", c, k)
	}
	checkGet(t, "behind", c, 2, 20)
	checkGet(t, "behind", c, 7, 70)
}

func TestCounts(t *testing.T) { // P8.1: only Get counts, and a flush takes nothing back
	c := made[word, string](t, 3)
	for i := range 10 {
		c.Put("a", "x")
		c.Put("b", "y")
		checkCounts(t, "Put alone", c, 0, 0, i)
		c.Flush()
		checkCounts(t, "Flush", c, 0, 0, i+1)
	}
	c.Put("a", "")
	for i := range 5 {
		c.Get("a")
		c.Get("b")
		c.Get("ccc")
		checkCounts(t, "Get", c, i+1, 2*(i+1), 10)
	}
	c.Flush()
	checkCounts(t, "behind a flush", c, 5, 10, 11)
	c.Get("a")
	checkCounts(t, "a miss behind a flush", c, 5, 11, 11)
	c.Put("a", "z")
	c.Get("a")
	checkCounts(t, "a hit behind a flush", c, 6, 11, 11)
}

// checkNil: of a nil cache nothing is told, and nothing is done.
func checkNil[K index.Key, V comparable](t *testing.T, what string, k K, v V) {
	t.Helper()
	var none V
	var c *Cache[K, V]
	for range 2 {
		if got, ok := c.Get(k); got != none || ok {
			t.Errorf("%s: Get: %v, %v", what, got, ok)
		}
		c.Put(k, v)
		c.Put(k, none)
		c.Flush()
		checkCounts(t, what, c, 0, 0, 0)
	}
	if c != nil {
		t.Errorf("%s: it is one now", what)
	}
}

func TestNilCache(t *testing.T) { // P8.1
	checkNil(t, "nil, of numbers", number(3), 1)
	checkNil(t, "nil, of several parts", question{name: "a"}, "a")
	checkNil(t, "nil, of one hash", same(0), api.Edge{At: 1})
	checkNil(t, "nil, of texts", word(""), true)
	checkNil(t, "nil, of pointers", &record{}, &record{})
	checkNil(t, "nil, of nil pointers", (*record)(nil), 1)
	checkNil(t, "nil, of interfaces", hasher(nil), any(1))
	checkNil(t, "nil, of no keys", angry(-1), 1)
}

// checkNoKey: a value that is no key has never an answer; the key that stands keeps its own.
func checkNoKey[K index.Key](t *testing.T, what string, no, k K) {
	t.Helper()
	c := made[K, int](t, 0)
	checkNone(t, what, c, no)
	c.Put(no, 1)
	checkNone(t, what, c, no)
	checkPut(t, what, c, k, 2)
	c.Put(no, 1)
	checkNone(t, what, c, no)
	checkGet(t, what, c, k, 2)
	checkFlush(t, what, c)
	c.Put(no, 1)
	checkNone(t, what+", flushed", c, no)
	checkNone(t, what+", flushed", c, k)
}

func TestNoKeys(t *testing.T) { // R1: nothing panics, though a value's hash, or holding it against others, does
	checkNoKey[angry](t, "a hash that panics", -1, 0)
	checkNoKey(t, "a nil pointer", nil, &record{"a"})
	checkNoKey[hasher](t, "a nil interface", nil, number(3))
	checkNoKey[hasher](t, "a nil pointer in an interface", (*record)(nil), &record{"abc"})
	checkNoKey[hasher](t, "a list", list{1}, number(3))
	checkNoKey[hasher](t, "a list in a part", pair{1, []int{2}}, pair{1, 2})
	checkNoKey(t, "a list in a part, the other alike", pair{1, []int{2}}, pair{1, nil})
	checkNoKey(t, "a map in the first part", pair{map[int]int{}, 1}, pair{1, 1})
	checkNoKey(t, "a number that is unlike itself", half(math.NaN()), 0)
	checkNoKey(t, "a part that is unlike itself", pair{math.NaN(), 1}, pair{0.5, 1})
}

// asking is a key whose hash works on the cache itself.
type asking struct {
	c  *Cache[asking, int]
	at int
}

func (k asking) Hash() uint64 {
	switch {
	case k.at == 1:
		k.c.Flush()
	case k.at > 1:
		k.c.Put(asking{k.c, 0}, k.at)
		k.c.Get(asking{k.c, 0})
	}
	return 3
}

func TestHashThatWorksOnTheCache(t *testing.T) { // R1, P8.2
	c := made[asking, int](t, 2)
	checkPut(t, "asking", c, asking{c, 0}, 5)
	c.Put(asking{c, 1}, 6)
	checkNone(t, "pushed out", c, asking{c, 0})
	c.Put(asking{c, 2}, 7)
	checkCounts(t, "a hit within Put", c, 2, 2, 1)
	if v, ok := c.Get(asking{c, 2}); v != 0 || ok {
		t.Errorf("its hash put another key: Get: %d, %v", v, ok)
	}
	checkCounts(t, "a hit within Get", c, 3, 3, 1)
	checkGet(t, "asking", c, asking{c, 0}, 2)
	if v, ok := c.Get(asking{c, 1}); v != 0 || ok || c.Epoch() != 2 {
		t.Errorf("its hash flushed: Get: %d, %v", v, ok)
	}
}

// hashes tells how often a moody key was asked for its hash.
var hashes int

// moody is a key whose hash is never the same.
type moody int

func (k moody) Hash() uint64 {
	hashes++
	return uint64(hashes)
}

func TestHashThatIsNeverTheSame(t *testing.T) { // P8.2: what is told is of just this key, whatever its hash was
	c := made[moody, int](t, 3)
	for i := range 1000 {
		c.Put(moody(i%10), i%10)
		if v, ok := c.Get(moody(i * 7 % 10)); ok && v != i*7%10 {
			t.Errorf("Get(%d): %d", i*7%10, v)
		}
	}
}

func TestNotMadeByNew(t *testing.T) { // R1: a cache without a place
	var c Cache[question, string]
	checkNone(t, "not made by New", &c, question{})
	c.Put(question{}, "a")
	checkNone(t, "not made by New", &c, question{})
	checkFlush(t, "not made by New", &c)
	c.Put(question{op: 1}, "a")
	checkNone(t, "not made by New, flushed", &c, question{op: 1})
	checkCounts(t, "not made by New", &c, 0, 6, 1)
}

func TestCachesApart(t *testing.T) { // R6: nothing is kept but in the cache itself
	c, d := made[number, int](t, 2), made[number, int](t, 2)
	checkPut(t, "one", c, 1, 10)
	checkNone(t, "other", d, 1)
	checkPut(t, "other", d, 1, 20)
	checkGet(t, "one", c, 1, 10)
	checkFlush(t, "one", c)
	checkGet(t, "other", d, 1, 20)
	checkNone(t, "one", c, 1)
	checkCounts(t, "one", c, 2, 2, 1)
	checkCounts(t, "other", d, 2, 2, 0)
}

func TestKeysArePutAsTheyAre(t *testing.T) { // R4: what is changed outside stands as it was
	c := made[row, [2]int](t, 5)
	k, v := row{1, 2, 3}, [2]int{4, 5}
	c.Put(k, v)
	k[0], v[0] = 9, 9
	checkNone(t, "changed", c, k)
	checkGet(t, "as it was", c, row{1, 2, 3}, [2]int{4, 5})
	v, _ = c.Get(row{1, 2, 3})
	v[1] = 9
	checkGet(t, "as it was", c, row{1, 2, 3}, [2]int{4, 5})
}

// leave puts a key with an answer whose place another one takes: nobody else has them then.
func leave(c *Cache[*record, *record]) []weak.Pointer[record] {
	k, v := &record{"x"}, &record{"y"}
	c.Put(k, v)
	c.Put(&record{"z"}, nil)
	return []weak.Pointer[record]{weak.Make(k), weak.Make(v)}
}

func TestWhatWasPushedOutIsNotKept(t *testing.T) { // nothing is kept that no promise needs
	c := made[*record, *record](t, 3)
	gone := leave(c)
	runtime.GC()
	runtime.GC()
	for i, k := range gone {
		if k.Value() != nil {
			t.Errorf("%d: was pushed out, and is still kept", i)
		}
	}
	runtime.KeepAlive(c)
}

func TestGreatAnswers(t *testing.T) { // P8.1: great answers in a great cache
	type great [1 << 16]uint64
	c := made[number, great](t, 20)
	for k := range number(50) {
		c.Put(k*k*k, great{0: uint64(k), 1<<16 - 1: uint64(k + 1)})
	}
	for k := range number(50) {
		if v, ok := c.Get(k * k * k); v[0] != uint64(k) || v[1<<16-1] != uint64(k+1) || !ok {
			t.Errorf("Get(%d): %d, %d, %v", k*k*k, v[0], v[1<<16-1], ok)
		}
	}
	texts := made[word, string](t, 20)
	checkPut(t, "a great text", texts, word(strings.Repeat("a", 1<<20)), strings.Repeat("b", 1<<20))
}

// answers tells for a number an answer of a type.
type answers[V any] func(int) V

// step does one thing to the cache and to the model, and holds the answers against each other.
func step[K index.Key, V comparable](t *testing.T, source *rand.Rand, c *Cache[K, V], m *model[K, V], keys []K, answer answers[V]) {
	t.Helper()
	k := keys[source.Intn(len(keys))]
	switch chance := source.Intn(200); {
	case chance < 90:
		v := answer(source.Intn(5))
		c.Put(k, v)
		m.puts = append(m.puts, put[K, V]{k, v})
	case chance < 198:
		got, ok := c.Get(k)
		want, has := m.get(k)
		if got != want || ok != has {
			t.Fatalf("Get(%v): %v, %v; not %v, %v", k, got, ok, want, has)
		}
	default:
		c.Flush()
		m.flush()
	}
	if c.Hits() != m.hits || c.Misses() != m.misses || c.Epoch() != m.epoch {
		t.Fatalf("hits, misses, epoch %d, %d, %d; not %d, %d, %d", c.Hits(), c.Misses(), c.Epoch(), m.hits, m.misses, m.epoch)
	}
}

// checkLong: a long run of calls tells what a plain list tells.
func checkLong[K index.Key, V comparable](t *testing.T, keys []K, answer answers[V]) {
	t.Helper()
	for _, bits := range []int{0, 1, 2, 3, 5, 8, 20} {
		source := rand.New(rand.NewSource(int64(bits)))
		c := made[K, V](t, bits)
		m := &model[K, V]{count: 1 << bits}
		for range 3000 {
			step(t, source, c, m, keys, answer)
		}
	}
}

// counted: so many keys that are numbers.
func counted[K ~int](count int) []K {
	l := make([]K, count)
	for i := range l {
		l[i] = K(i)
	}
	return l
}

// questions: so many keys of several parts, each like others in all parts but one.
func questions(count int) []question {
	l := make([]question, count)
	for i := range l {
		l[i] = question{name: []string{"", "a"}[i%2], op: uint8(i / 2 % 2), f: api.Edge{Tag: uint8(i / 4 % 2)}, g: api.Edge{At: uint32(i / 8)}}
	}
	return l
}

func TestAgainstThePlainList(t *testing.T) { // P8.1, P8.2
	itself := func(i int) int { return i }
	text := func(i int) string { return strings.Repeat("a", i) }
	edge := func(i int) api.Edge { return api.Edge{Tag: uint8(i / 3), At: uint32(i % 3)} }
	checkLong(t, counted[number](1), itself)
	checkLong(t, counted[number](12), text)
	checkLong(t, counted[number](200), edge)
	checkLong(t, counted[same](4), itself)
	checkLong(t, counted[nought](4), text)
	checkLong(t, counted[greatest](4), edge)
	checkLong(t, counted[ends](6), itself)
	checkLong(t, counted[highest](6), text)
	checkLong(t, counted[few](20), edge)
	checkLong(t, counted[falling](40), itself)
	checkLong(t, questions(60), edge)
	checkLong(t, []number{0, -1, 1, 1 << 20, 1<<20 - 1, 1 << 40, math.MaxInt, math.MinInt}, itself)
	checkLong(t, []hasher{number(1), same(1), few(1), highest(1), word("a"), &record{"a"}, &record{"a"}, ends(1), number(0), pair{1, "a"}, pair{"a", 1}}, text)
}

func FuzzCalls(f *testing.F) { // P8.1, P8.2: any row of calls
	f.Add(uint8(0), []byte{1, 2, 1, 128, 0, 129, 255})
	f.Add(uint8(2), []byte{1, 5, 9, 129, 133, 137, 255, 129})
	f.Fuzz(func(t *testing.T, bits uint8, calls []byte) {
		c := made[number, int](t, int(bits%21))
		m := &model[number, int]{count: 1 << (bits % 21)}
		for i, call := range calls {
			k := number(call % 64)
			switch call / 64 {
			case 0, 1:
				c.Put(k, i)
				m.puts = append(m.puts, put[number, int]{k, i})
			case 2:
				got, ok := c.Get(k)
				want, has := m.get(k)
				if got != want || ok != has {
					t.Fatalf("call %d: Get(%d): %d, %v; not %d, %v", i, k, got, ok, want, has)
				}
			case 3:
				c.Flush()
				m.flush()
			}
		}
		checkCounts(t, "any calls", c, m.hits, m.misses, m.epoch)
	})
}
