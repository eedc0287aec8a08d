package wire

import (
	"bytes"
	"encoding/binary"
	"fmt"
	"math"
	"math/big"
	"math/rand"
	"slices"
	"strings"
	"testing"

	"ramage/api"
)

const greatest = math.MaxUint64

// numbers: 0, those about each power of 2 (at which one byte more is wanted among them), and some between.
func numbers() []uint64 {
	l := []uint64{0, 3, 300, greatest - 1, greatest}
	for power := range 64 {
		n := uint64(1) << power
		l = append(l, n-1, n, n+1)
	}
	source := rand.New(rand.NewSource(1))
	for range 300 {
		l = append(l, source.Uint64()>>source.Intn(64))
	}
	slices.Sort(l)
	return slices.Compact(l)
}

func texts() []string {
	return []string{
		"", "a", "ab", "\x00", "\x80", "\xff\xfe", "\x80\x00", "déjà", "one\ntwo",
		strings.Repeat("x", 127), strings.Repeat("y", 128), strings.Repeat("\x80", 129),
		strings.Repeat("z", 16383), strings.Repeat("\x00", 16384),
	}
}

// heads: bytes that others are put behind, with room behind them and without.
func heads() [][]byte {
	return [][]byte{nil, {}, {0}, {128}, {1, 2, 255}, make([]byte, 0, 64), append(make([]byte, 0, 64), 7, 8), make([]byte, 1000)}
}

// grouped: the bytes of a number, by its digits in base 128.
func grouped(n uint64) []byte {
	rest, base, digit := new(big.Int).SetUint64(n), big.NewInt(128), new(big.Int)
	var digits []byte
	for len(digits) == 0 || rest.Sign() > 0 {
		rest.DivMod(rest, base, digit)
		digits = append(digits, byte(digit.Int64()))
	}
	for i := range len(digits) - 1 {
		digits[i] += 128
	}
	return digits
}

func TestPutExamples(t *testing.T) { // P4.1
	for _, c := range []struct {
		n    uint64
		want []byte
	}{
		{0, []byte{0}},
		{1, []byte{1}},
		{127, []byte{127}},
		{128, []byte{0x80, 1}},
		{300, []byte{0xac, 2}},
		{1<<14 - 1, []byte{0xff, 0x7f}},
		{1 << 14, []byte{0x80, 0x80, 1}},
		{1<<63 - 1, []byte{0xff, 0xff, 0xff, 0xff, 0xff, 0xff, 0xff, 0xff, 0x7f}},
		{1 << 63, []byte{0x80, 0x80, 0x80, 0x80, 0x80, 0x80, 0x80, 0x80, 0x80, 1}},
		{greatest, []byte{0xff, 0xff, 0xff, 0xff, 0xff, 0xff, 0xff, 0xff, 0xff, 1}},
	} {
		if b := Put(nil, c.n); !bytes.Equal(b, c.want) {
			t.Errorf("Put(nil, %d): %x, not %x", c.n, b, c.want)
		}
		if Size(c.n) != len(c.want) {
			t.Errorf("Size(%d): %d", c.n, Size(c.n))
		}
	}
}

func TestPut(t *testing.T) { // P4.1
	for _, n := range numbers() {
		want := grouped(n)
		if library := binary.AppendUvarint(nil, n); !bytes.Equal(want, library) {
			t.Fatalf("%d: the test wants %x, or %x", n, want, library)
		}
		if Size(n) != len(want) {
			t.Errorf("Size(%d): %d, not %d", n, Size(n), len(want))
		}
		for _, head := range heads() {
			if b := Put(head, n); !bytes.Equal(b, slices.Concat(head, want)) {
				t.Errorf("Put(%x, %d): %x", head, n, b)
			}
		}
	}
}

func TestSizeGrows(t *testing.T) { // P4.1
	for size := 1; size <= 9; size++ {
		first := uint64(1) << (7 * size)
		if Size(first-1) != size || Size(first) != size+1 {
			t.Errorf("Size(%d): %d, Size(%d): %d", first-1, Size(first-1), first, Size(first))
		}
	}
	if Size(0) != 1 || Size(greatest) != 10 {
		t.Errorf("Size(0): %d, of the greatest: %d", Size(0), Size(greatest))
	}
}

func TestPutText(t *testing.T) { // P4.1
	if b := PutText([]byte{9}, "ab"); !bytes.Equal(b, []byte{9, 2, 'a', 'b'}) {
		t.Errorf("PutText: %x", b)
	}
	if b := PutText(nil, ""); !bytes.Equal(b, []byte{0}) {
		t.Errorf("PutText of an empty text: %x", b)
	}
	for _, s := range texts() {
		for _, head := range heads() {
			want := slices.Concat(head, grouped(uint64(len(s))), []byte(s))
			if b := PutText(head, s); !bytes.Equal(b, want) {
				t.Errorf("PutText(%x, %q): %x", head, s, b)
			}
		}
	}
}

// wantedNum: what Num tells of b, by its words: of how b begins, the bytes at which that can't go on, the number that ends there.
func wantedNum(b []byte, most uint64) (n uint64, size int, err api.Err) {
	for end := 1; end <= len(b); end++ {
		last := b[end-1]
		if end == 10 && last > 1 || end > 1 && last == 0 {
			return 0, 0, api.Bytes
		}
		if last >= 128 {
			continue
		}
		n, took := binary.Uvarint(b[:end])
		if took != end {
			panic(fmt.Sprintf("the test: %x", b))
		}
		if n > most {
			return 0, 0, api.Large
		}
		return n, end, api.OK
	}
	return 0, 0, api.None
}

// checkStuck: r has that error, so much left, and neither changes any more.
func checkStuck(t *testing.T, what string, r *Reader, err api.Err, left int) {
	t.Helper()
	for range 2 {
		if r.Err() != err || r.End() != err || r.Left() != left {
			t.Errorf("%s: %v, %v at the end, %d left; not %v, %d left", what, r.Err(), r.End(), r.Left(), err, left)
		}
		if n, x, s := r.Num(greatest), r.Byte(), r.Text(math.MaxInt); n != 0 || x != 0 || s != "" {
			t.Errorf("%s: behind an error: %d, %d, %q", what, n, x, s)
		}
		if n, s := r.Num(0), r.Text(-1); n != 0 || s != "" {
			t.Errorf("%s: behind an error: %d, %q", what, n, s)
		}
	}
}

// checkNum: Num of b tells what is wanted, and takes the number's bytes alone, or none.
func checkNum(t *testing.T, b []byte, most uint64) {
	t.Helper()
	what := fmt.Sprintf("Num(%d) of %x", most, b)
	want, size, err := wantedNum(b, most)
	r := NewReader(b)
	n := r.Num(most)
	if n != want || r.Err() != err || r.Left() != len(b)-size {
		t.Errorf("%s: %d, %v, %d left; not %d, %v, %d", what, n, r.Err(), r.Left(), want, err, len(b)-size)
		return
	}
	if err != api.OK {
		checkStuck(t, what, r, err, len(b))
		return
	}
	checkRest(t, what, r, b[size:])
}

// checkRest: what is left is rest, byte by byte, and then nothing.
func checkRest(t *testing.T, what string, r *Reader, rest []byte) {
	t.Helper()
	for i, x := range rest {
		if r.Left() != len(rest)-i || r.End() != api.Bytes || r.Err() != api.OK {
			t.Errorf("%s: then %d left, %v, %v at the end", what, r.Left(), r.Err(), r.End())
		}
		if got := r.Byte(); got != x {
			t.Errorf("%s: then the byte %d is %x, not %x", what, i, got, x)
		}
	}
	if r.Left() != 0 || r.Err() != api.OK || r.End() != api.OK {
		t.Errorf("%s: at the end %d left, %v, %v", what, r.Left(), r.Err(), r.End())
	}
}

func TestNumExamples(t *testing.T) { // P4.2
	nines := bytes.Repeat([]byte{0xff}, 9)
	eighties := bytes.Repeat([]byte{0x80}, 9)
	for _, c := range []struct {
		b    []byte
		most uint64
		want uint64
		err  api.Err
		left int
	}{
		{[]byte{0}, 0, 0, api.OK, 0},
		{[]byte{0, 0}, 0, 0, api.OK, 1},
		{[]byte{0xac, 2}, 300, 300, api.OK, 0},
		{[]byte{0xac, 2}, 299, 0, api.Large, 2},
		{[]byte{1}, 0, 0, api.Large, 1},
		{nil, 9, 0, api.None, 0},
		{[]byte{}, greatest, 0, api.None, 0},
		{[]byte{0x80}, 9, 0, api.None, 1},
		{[]byte{0xff, 0xff}, 9, 0, api.None, 2},
		{[]byte{0x80, 0}, 9, 0, api.Bytes, 2},
		{[]byte{0xff, 0}, 0, 0, api.Bytes, 2},
		{[]byte{0x80, 0x80, 0}, 9, 0, api.Bytes, 3},
		{[]byte{0x80, 0, 1}, 9, 0, api.Bytes, 3},
		{[]byte{0x80, 0x80, 1}, 1 << 14, 1 << 14, api.OK, 0},
		{slices.Concat(nines, []byte{1}), greatest, greatest, api.OK, 0},
		{slices.Concat(nines, []byte{1, 1}), greatest, greatest, api.OK, 1},
		{slices.Concat(nines, []byte{1}), greatest - 1, 0, api.Large, 10},
		{slices.Concat(eighties, []byte{1}), 1 << 63, 1 << 63, api.OK, 0},
		{slices.Concat(eighties, []byte{1}), 1<<63 - 1, 0, api.Large, 10},
		{slices.Concat(nines, []byte{0}), greatest, 0, api.Bytes, 10},
		{slices.Concat(nines, []byte{2}), greatest, 0, api.Bytes, 10},
		{slices.Concat(nines, []byte{0x7f}), greatest, 0, api.Bytes, 10},
		{slices.Concat(nines, []byte{0x80}), greatest, 0, api.Bytes, 10},
		{slices.Concat(nines, []byte{0x81}), greatest, 0, api.Bytes, 10},
		{slices.Concat(nines, []byte{0x81, 1}), 0, 0, api.Bytes, 11},
		{slices.Concat(nines, nines), 0, 0, api.Bytes, 18},
		{nines, greatest, 0, api.None, 9},
		{nines, 0, 0, api.None, 9},
	} {
		r := NewReader(c.b)
		n := r.Num(c.most)
		if n != c.want || r.Err() != c.err || r.Left() != c.left {
			t.Errorf("Num(%d) of %x: %d, %v, %d left; not %d, %v, %d", c.most, c.b, n, r.Err(), r.Left(), c.want, c.err, c.left)
		}
		checkNum(t, c.b, c.most)
	}
}

func TestNumOfShortBytes(t *testing.T) { // P4.2: all of up to two bytes, and those of up to five that edges are made of
	for first := range 256 {
		checkNum(t, []byte{byte(first)}, 100)
		for second := range 256 {
			b := []byte{byte(first), byte(second)}
			checkNum(t, b, greatest)
			checkNum(t, b, 5000)
		}
	}
	edges := []byte{0, 1, 2, 127, 128, 129, 255}
	lists := [][]byte{nil}
	for from := 0; len(lists[from]) < 5; from++ {
		for _, x := range edges {
			lists = append(lists, append(slices.Clone(lists[from]), x))
		}
	}
	for _, b := range lists {
		checkNum(t, b, 1<<20)
	}
}

func TestNumOfLongBytes(t *testing.T) { // P4.2: about the tenth byte
	source := rand.New(rand.NewSource(2))
	for length := 7; length <= 12; length++ {
		for range 40 {
			b := make([]byte, length)
			for i := range b {
				b[i] = byte(source.Intn(256)) | 128
			}
			checkNum(t, b, greatest)
			for last := range 256 {
				b[length-1] = byte(last)
				checkNum(t, b, greatest)
				checkNum(t, b, source.Uint64())
			}
		}
	}
}

func TestNumAndMost(t *testing.T) { // P4.2
	for _, n := range numbers() {
		b := Put(nil, n)
		checkNum(t, b, n)
		checkNum(t, b, greatest)
		if n > 0 {
			checkNum(t, b, n-1)
			checkNum(t, b, 0)
		}
		for end := range b {
			checkNum(t, b[:end], 0)
			checkNum(t, b[:end], n)
			checkNum(t, slices.Concat(b[:end], []byte{0}), n)
		}
	}
}

func TestByte(t *testing.T) { // P4.2
	all := make([]byte, 256)
	for i := range all {
		all[i] = byte(i)
	}
	checkRest(t, "bytes", NewReader(all), all)
	r := NewReader([]byte{5})
	if x := r.Byte(); x != 5 || r.Err() != api.OK || r.Left() != 0 {
		t.Errorf("Byte: %d, %v, %d left", x, r.Err(), r.Left())
	}
	if x := r.Byte(); x != 0 {
		t.Errorf("Byte of none: %d", x)
	}
	checkStuck(t, "Byte of none", r, api.None, 0)
}

// checkText: Text of b tells what is wanted, and takes the text with its length, or nothing.
func checkText(t *testing.T, b []byte, most int, want string, err api.Err, left int) {
	t.Helper()
	what := fmt.Sprintf("Text(%d) of %.40x", most, b)
	r := NewReader(b)
	if s := r.Text(most); s != want || r.Err() != err || r.Left() != left {
		t.Errorf("%s: %q, %v, %d left; not %q, %v, %d", what, s, r.Err(), r.Left(), want, err, left)
		return
	}
	if err != api.OK {
		checkStuck(t, what, r, err, left)
		return
	}
	checkRest(t, what, r, b[len(b)-left:])
}

func TestTextExamples(t *testing.T) { // P4.2
	vast := Put(nil, greatest)
	for _, c := range []struct {
		b    []byte
		most int
		want string
		err  api.Err
		left int
	}{
		{[]byte{2, 'a', 'b'}, 2, "ab", api.OK, 0},
		{[]byte{2, 'a', 'b', 'c'}, 9, "ab", api.OK, 1},
		{[]byte{1, 0x80, 0}, math.MaxInt, "\x80", api.OK, 1},
		{[]byte{0}, 0, "", api.OK, 0},
		{[]byte{0}, -1, "", api.OK, 0},
		{[]byte{0, 7}, math.MinInt, "", api.OK, 1},
		{[]byte{1, 'a'}, 0, "", api.Large, 2},
		{[]byte{1, 'a'}, -1, "", api.Large, 2},
		{[]byte{1, 'a'}, math.MinInt, "", api.Large, 2},
		{[]byte{2, 'a', 'b'}, 1, "", api.Large, 3},
		{[]byte{2, 'a'}, 1, "", api.Large, 2},
		{[]byte{2, 'a'}, 2, "", api.None, 2},
		{[]byte{1}, 1, "", api.None, 1},
		{[]byte{127, 'a'}, math.MaxInt, "", api.None, 2},
		{nil, 5, "", api.None, 0},
		{nil, -5, "", api.None, 0},
		{[]byte{0x80}, 0, "", api.None, 1},
		{[]byte{0x81, 0, 'a'}, 0, "", api.Bytes, 3},
		{[]byte{0x81, 0}, 5, "", api.Bytes, 2},
		{vast, math.MaxInt, "", api.Large, 10},
		{Put(nil, math.MaxInt), math.MaxInt, "", api.None, 9},
		{Put(nil, math.MaxInt), math.MaxInt - 1, "", api.Large, 9},
		{Put(nil, math.MaxInt+1), math.MaxInt, "", api.Large, 10},
		{append(vast[:9:9], 2), math.MaxInt, "", api.Bytes, 10},
		{append(vast[:9:9], 0), -1, "", api.Bytes, 10},
		{vast[:9], 0, "", api.None, 9},
	} {
		checkText(t, c.b, c.most, c.want, c.err, c.left)
	}
}

func TestText(t *testing.T) { // P4.2, P4.3
	for _, s := range texts() {
		b := PutText(nil, s)
		checkText(t, b, len(s), s, api.OK, 0)
		checkText(t, append(b, 9, 0, 128), math.MaxInt, s, api.OK, 3)
		if s != "" {
			checkText(t, b, len(s)-1, "", api.Large, len(b))
			checkText(t, b, -len(s), "", api.Large, len(b))
		}
		for _, end := range []int{0, 1, len(b) / 2, len(b) - 1} {
			if end < len(b) {
				checkText(t, b[:end], len(s), "", api.None, end)
			}
		}
	}
}

func TestFirstErrorStays(t *testing.T) { // P4.2: with good things behind it, and worse ones
	for _, c := range []struct {
		what  string
		b     []byte
		fails func(r *Reader)
		err   api.Err
	}{
		{"Num, Large", []byte{9, 1, 'a', 128, 0}, func(r *Reader) { r.Num(8) }, api.Large},
		{"Num, Bytes", []byte{128, 0, 1, 'a'}, func(r *Reader) { r.Num(8) }, api.Bytes},
		{"Num, None", []byte{128, 255}, func(r *Reader) { r.Num(8) }, api.None},
		{"Byte, None", nil, func(r *Reader) { r.Byte() }, api.None},
		{"Text, Large", []byte{1, 'a', 128, 0}, func(r *Reader) { r.Text(0) }, api.Large},
		{"Text, Bytes", []byte{128, 0, 1, 'a'}, func(r *Reader) { r.Text(9) }, api.Bytes},
		{"Text, None of its length", []byte{129}, func(r *Reader) { r.Text(9) }, api.None},
		{"Text, None of its bytes", []byte{4, 1, 'a', 0}, func(r *Reader) { r.Text(9) }, api.None},
	} {
		r := NewReader(slices.Concat([]byte{5, 130, 1, 2, 'x', 'y'}, c.b))
		if x, n, s := r.Byte(), r.Num(130), r.Text(2); x != 5 || n != 130 || s != "xy" || r.Err() != api.OK {
			t.Errorf("%s: ahead of it %d, %d, %q, %v", c.what, x, n, s, r.Err())
		}
		c.fails(r)
		checkStuck(t, c.what, r, c.err, len(c.b))
	}
}

func TestEnd(t *testing.T) { // P4.2: what it tells of something left is no error that stays
	r := NewReader([]byte{1, 'x', 'y'})
	for range 2 {
		if r.End() != api.Bytes || r.Err() != api.OK || r.Left() != 3 {
			t.Errorf("End: %v, %v, %d left", r.End(), r.Err(), r.Left())
		}
	}
	if s := r.Text(1); s != "x" {
		t.Errorf("Text behind End: %q", s)
	}
	checkRest(t, "End", r, []byte{'y'})
	for _, none := range [][]byte{nil, {}} {
		r := NewReader(none)
		if r == nil || r.End() != api.OK || r.Err() != api.OK || r.Left() != 0 {
			t.Errorf("of no bytes: %v, %v, %v, %d left", r, r.End(), r.Err(), r.Left())
		}
	}
}

func TestNil(t *testing.T) { // P4.2, R1
	checkStuck(t, "nil", nil, api.Nil, 0)
	checkRest(t, "a new one", new(Reader), nil)
}

func TestWhatIsPutIsTaken(t *testing.T) { // P4.3
	source := rand.New(rand.NewSource(3))
	many, words := numbers(), texts()
	for range 200 {
		var b []byte
		var checks []func(r *Reader) bool
		for range source.Intn(20) {
			if source.Intn(3) == 0 {
				s := words[source.Intn(10)]
				b = PutText(b, s)
				checks = append(checks, func(r *Reader) bool { return r.Text(len(s)) == s })
			} else {
				n := many[source.Intn(len(many))]
				b = Put(b, n)
				checks = append(checks, func(r *Reader) bool { return r.Num(n) == n })
			}
		}
		r := NewReader(b)
		for i, taken := range checks {
			if !taken(r) || r.Err() != api.OK {
				t.Errorf("%x: the thing %d isn't taken: %v", b, i, r.Err())
			}
		}
		if r.Left() != 0 || r.End() != api.OK {
			t.Errorf("%x: %d left, %v", b, r.Left(), r.End())
		}
	}
}

func TestNoneBeginsAnother(t *testing.T) { // P4.3
	many := numbers()
	for n := range uint64(600) {
		many = append(many, n)
	}
	slices.Sort(many)
	many = slices.Compact(many)
	var all [][]byte
	for _, n := range many {
		b := Put(nil, n)
		if len(b) != Size(n) {
			t.Errorf("Size(%d): %d, of %x", n, Size(n), b)
		}
		all = append(all, b)
	}
	for i, a := range all {
		for k, b := range all {
			if i != k && bytes.HasPrefix(b, a) {
				t.Errorf("%x of %d begins %x of %d", a, many[i], b, many[k])
			}
		}
	}
}

func TestOneWayToWrite(t *testing.T) { // P4.3: bytes that are taken as a number are those that it is put as
	source := rand.New(rand.NewSource(4))
	for range 20000 {
		b := make([]byte, 1+source.Intn(12))
		for i := range b {
			b[i] = byte(source.Intn(256)) | byte(source.Intn(4)/2*128)
		}
		r := NewReader(b)
		n := r.Num(greatest)
		if taken := b[:len(b)-r.Left()]; r.Err() == api.OK && !bytes.Equal(taken, Put(nil, n)) {
			t.Errorf("%x is taken as %d, which is %x", taken, n, Put(nil, n))
		}
	}
}

// scribble fills b, and the room behind it.
func scribble(b []byte) {
	b = b[:cap(b)]
	for i := range b {
		b[i] = 0xee
	}
}

func TestPutsIntoNewMemory(t *testing.T) { // P4.1, R4
	puts := map[string]func(b []byte) []byte{
		"Put of 0":         func(b []byte) []byte { return Put(b, 0) },
		"Put":              func(b []byte) []byte { return Put(b, 1<<40) },
		"PutText":          func(b []byte) []byte { return PutText(b, "text") },
		"PutText of empty": func(b []byte) []byte { return PutText(b, "") },
	}
	for what, put := range puts {
		room := []byte{1, 2, 3, 4, 4, 4, 4, 4, 4, 4, 4, 4, 4, 4, 4, 4}
		kept := slices.Clone(room)
		head := room[:3]
		first, second := put(head), put(head)
		want := slices.Clone(second)
		scribble(first)
		if !bytes.Equal(room, kept) {
			t.Errorf("%s: what was handed in, with the room behind it, is %x now", what, room)
		}
		scribble(room)
		if !bytes.Equal(second, want) {
			t.Errorf("%s: what was told is %x now, not %x", what, second, want)
		}
	}
}

func TestReaderHasBytesOfItsOwn(t *testing.T) { // R4
	b := append(make([]byte, 0, 32), 0xac, 2, 3, 'a', 'b', 'c', 7)
	kept := slices.Clone(b)
	r := NewReader(b)
	other := NewReader(b)
	if n, s, x := r.Num(300), r.Text(3), r.Byte(); n != 300 || s != "abc" || x != 7 || !bytes.Equal(b, kept) {
		t.Errorf("%d, %q, %d, of %x", n, s, x, b)
	}
	scribble(b)
	if n := other.Num(300); n != 300 {
		t.Errorf("of bytes that were changed behind the call: %d", n)
	}
	s := other.Text(3)
	scribble(b)
	if x := other.Byte(); s != "abc" || x != 7 || other.End() != api.OK {
		t.Errorf("of bytes that were changed behind the call: %q, %d, %v", s, x, other.End())
	}
}

func TestReadersApart(t *testing.T) { // R4, R6: one's error, and what it has taken, is no other one's
	b := []byte{1, 2, 3}
	one, two := NewReader(b), NewReader(b)
	one.Num(0)
	if one.Err() != api.Large || two.Err() != api.OK || two.Left() != 3 || two.Num(1) != 1 || one.Left() != 3 {
		t.Errorf("%v, %d left; %v, %d left", one.Err(), one.Left(), two.Err(), two.Left())
	}
}

func FuzzReader(f *testing.F) { // P4.2, R1
	f.Add([]byte{0xac, 2, 1, 'a'}, uint64(300), 5)
	f.Add([]byte{128, 0}, uint64(0), math.MinInt)
	f.Fuzz(func(t *testing.T, b []byte, most uint64, length int) {
		checkNum(t, b, most)
		r := NewReader(b)
		for range 3 {
			before := r.Left()
			s := r.Text(length)
			if r.Err() != api.OK {
				checkStuck(t, "Text", r, r.Err(), before)
			} else if r.Left() != before-Size(uint64(len(s)))-len(s) || len(s) > max(length, 0) {
				t.Errorf("%x: Text(%d): %q, %d left of %d", b, length, s, r.Left(), before)
			}
		}
	})
}
