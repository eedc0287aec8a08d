package nat

import (
	"fmt"
	"math"
	"math/big"
	"math/rand"
	"slices"
	"strings"
	"testing"

	"ramage/api"
)

const allOnes = math.MaxUint64

// words: a list of n words w.
func words(n int, w uint64) []uint64 {
	return slices.Repeat([]uint64{w}, n)
}

// power: 2 to 64 * n.
func power(n int) []uint64 {
	return append(make([]uint64, n), 1)
}

// padded: a, with n words 0 behind it.
func padded(a []uint64, n int) []uint64 {
	return append(slices.Clone(a), make([]uint64, n)...)
}

func toBig(a []uint64) *big.Int {
	n := new(big.Int)
	for i := len(a) - 1; i >= 0; i-- {
		n.Lsh(n, 64).Or(n, new(big.Int).SetUint64(a[i]))
	}
	return n
}

func fromBig(n *big.Int) []uint64 {
	var a []uint64
	mask := new(big.Int).SetUint64(allOnes)
	for n = new(big.Int).Set(n); n.Sign() > 0; n.Rsh(n, 64) {
		a = append(a, new(big.Int).And(n, mask).Uint64())
	}
	return a
}

func tooGreat(n *big.Int) bool { return n.BitLen() > 64*api.MaxWords }

// samples: edges of the numbers, and some of all lengths between.
func samples() [][]uint64 {
	list := [][]uint64{
		nil, {}, {0}, {0, 0, 0}, make([]uint64, api.MaxWords+5),
		{1}, {1, 0}, {2}, {9}, {10}, {11}, {allOnes}, {allOnes, 0, 0}, {1 << 63}, {0, 1}, {0, 3},
		{allOnes, 1}, {allOnes, allOnes}, {allOnes - 1, allOnes}, {0, 0, 1}, {1, 0, 1, 0},
		{chunk - 1}, {chunk}, {chunk + 1},
		words(32, allOnes), power(31), power(32), power(33),
		words(63, allOnes), power(62), power(63), words(64, allOnes), padded(words(64, allOnes), 3),
		append(make([]uint64, 63), 1<<63), append(words(63, 0), allOnes),
		power(64), padded(power(64), 2), words(65, allOnes), words(65, 1), words(200, 7),
	}
	source := rand.New(rand.NewSource(1))
	for n := range api.MaxWords + 2 {
		a := make([]uint64, n)
		for i := range a {
			switch source.Intn(4) {
			case 0:
				a[i] = 0
			case 1:
				a[i] = allOnes
			default:
				a[i] = source.Uint64()
			}
		}
		list = append(list, a)
	}
	return list
}

// checkAnswer holds an answer against the number that is asked for; nil stands for none.
func checkAnswer(t *testing.T, what string, got []uint64, ok bool, want *big.Int) {
	t.Helper()
	if want == nil || tooGreat(want) {
		if ok || len(got) != 0 {
			t.Errorf("%s: %v, %v; want nothing, false", what, got, ok)
		}
		return
	}
	if !ok || !slices.Equal(got, fromBig(want)) {
		t.Errorf("%s: %v, %v; want %v, true", what, got, ok, fromBig(want))
	}
}

func TestOf(t *testing.T) { // P1.1
	if a := Of(0); len(a) != 0 {
		t.Errorf("Of(0): %v", a)
	}
	for _, n := range []uint64{1, 2, 1 << 32, 1 << 63, allOnes} {
		if a := Of(n); !slices.Equal(a, []uint64{n}) {
			t.Errorf("Of(%d): %v", n, a)
		}
	}
}

func TestNorm(t *testing.T) { // P1.1
	cases := []struct{ in, want []uint64 }{
		{nil, nil}, {[]uint64{}, nil}, {[]uint64{0}, nil}, {make([]uint64, 100), nil},
		{[]uint64{1}, []uint64{1}}, {[]uint64{1, 0}, []uint64{1}}, {[]uint64{2, 0, 0}, []uint64{2}},
		{[]uint64{0, 1}, []uint64{0, 1}}, {[]uint64{0, 1, 0, 2, 0}, []uint64{0, 1, 0, 2}},
		{words(64, 1), words(64, 1)}, {padded(words(64, 1), 1), words(64, 1)},
		{padded(power(64), 3), power(64)}, {padded(words(100, 3), 9), words(100, 3)},
	}
	for _, c := range cases {
		if a := Norm(c.in); !slices.Equal(a, c.want) {
			t.Errorf("Norm(%v): %v", c.in, a)
		}
	}
}

func TestCmp(t *testing.T) { // P1.1
	for _, a := range samples() {
		for _, b := range samples() {
			if got, want := Cmp(a, b), toBig(a).Cmp(toBig(b)); got != want {
				t.Errorf("Cmp(%v, %v): %d, want %d", a, b, got, want)
			}
		}
	}
}

func TestCmpExamples(t *testing.T) { // P1.1
	cases := []struct {
		a, b []uint64
		want int
	}{
		{nil, nil, 0}, {nil, []uint64{0, 0}, 0}, {nil, []uint64{1}, -1}, {[]uint64{1}, nil, 1},
		{[]uint64{1, 0}, []uint64{1}, 0}, {[]uint64{0, 1}, []uint64{5}, 1}, {[]uint64{5, 0, 0}, []uint64{0, 1}, -1},
		{[]uint64{1, 2}, []uint64{2, 1}, 1}, {[]uint64{1, 2}, []uint64{2, 2}, -1},
		{power(64), words(64, allOnes), 1}, {words(64, allOnes), power(64), -1}, {words(70, 1), words(70, 1), 0},
		{power(100), power(99), 1}, {padded(power(99), 50), power(100), -1},
	}
	for _, c := range cases {
		if got := Cmp(c.a, c.b); got != c.want {
			t.Errorf("Cmp(%v, %v): %d, want %d", c.a, c.b, got, c.want)
		}
	}
}

func TestAddSubMul(t *testing.T) { // P1.2
	for i, a := range samples() {
		for j, b := range samples() {
			x, y := toBig(a), toBig(b)
			var sum, less, product *big.Int
			if !tooGreat(x) && !tooGreat(y) {
				sum = new(big.Int).Add(x, y)
				product = new(big.Int).Mul(x, y)
				if x.Cmp(y) >= 0 {
					less = new(big.Int).Sub(x, y)
				}
			}
			what := fmt.Sprintf("of samples %d, %d", i, j)
			got, ok := Add(a, b)
			checkAnswer(t, "Add "+what, got, ok, sum)
			got, ok = Sub(a, b)
			checkAnswer(t, "Sub "+what, got, ok, less)
			got, ok = Mul(a, b)
			checkAnswer(t, "Mul "+what, got, ok, product)
		}
	}
}

func TestShift(t *testing.T) { // P1.2
	shifts := []int{
		math.MinInt, math.MinInt + 1, -65, -64, -2, -1, 0, 1, 2, 31, 62, 63, 64, 65, 127, 128, 129,
		4031, 4032, 4033, 4094, 4095, 4096, 4097, 4160, 100000,
	}
	for i, a := range samples() {
		for _, k := range shifts {
			var want *big.Int
			if x := toBig(a); !tooGreat(x) && k >= 0 {
				want = new(big.Int).Lsh(x, uint(k))
			}
			got, ok := Shift(a, k)
			checkAnswer(t, fmt.Sprintf("Shift of sample %d, %d", i, k), got, ok, want)
		}
	}
}

func TestShiftByTheGreatestInt(t *testing.T) { // P1.2: 0 stays 0, however far
	for _, k := range []int{math.MaxInt, math.MaxInt - 1, math.MaxInt / 64, 1 << 40} {
		for _, a := range [][]uint64{nil, {0}, make([]uint64, 100)} {
			if b, ok := Shift(a, k); !ok || len(b) != 0 {
				t.Errorf("Shift(0, %d): %v, %v", k, b, ok)
			}
		}
		for _, a := range [][]uint64{{1}, words(64, allOnes), power(64)} {
			if b, ok := Shift(a, k); ok || len(b) != 0 {
				t.Errorf("Shift(%v, %d): %v, %v", a, k, b, ok)
			}
		}
	}
}

func TestTooGreatArguments(t *testing.T) { // P1.2: even where the answer isn't
	great := power(64)
	nothing := func(what string, a []uint64, ok bool) {
		t.Helper()
		if ok || len(a) != 0 {
			t.Errorf("%s: %v, %v", what, a, ok)
		}
	}
	for _, small := range [][]uint64{nil, {0}, {1}} {
		a, ok := Mul(small, great)
		nothing("Mul(small, great)", a, ok)
		a, ok = Mul(great, small)
		nothing("Mul(great, small)", a, ok)
		a, ok = Add(small, great)
		nothing("Add(small, great)", a, ok)
		a, ok = Add(great, small)
		nothing("Add(great, small)", a, ok)
		a, ok = Sub(great, small)
		nothing("Sub(great, small)", a, ok)
		a, ok = Sub(small, great)
		nothing("Sub(small, great)", a, ok)
	}
	a, ok := Sub(great, great)
	nothing("Sub(great, great)", a, ok)
	a, ok = Shift(great, 0)
	nothing("Shift(great, 0)", a, ok)
}

func TestTooGreatAnswers(t *testing.T) { // P1.2: the edge between 64 words and one more
	most := words(64, allOnes)
	if a, ok := Add(most, []uint64{1}); ok || len(a) != 0 {
		t.Errorf("Add(most, 1): %v, %v", a, ok)
	}
	lower, _ := Sub(most, []uint64{1})
	if a, ok := Add(lower, []uint64{1}); !ok || !slices.Equal(a, most) {
		t.Errorf("Add(most - 1, 1): %v, %v", a, ok)
	}
	if a, ok := Mul(power(32), power(31)); !ok || !slices.Equal(a, power(63)) {
		t.Errorf("Mul of 64 words: %v, %v", a, ok)
	}
	if a, ok := Mul(power(32), power(32)); ok || len(a) != 0 {
		t.Errorf("Mul of 65 words: %v, %v", a, ok)
	}
	if a, ok := Shift([]uint64{1}, 4095); !ok || !slices.Equal(a, append(make([]uint64, 63), 1<<63)) {
		t.Errorf("Shift(1, 4095): %v, %v", a, ok)
	}
	for _, k := range []int{4096, 4097} {
		if a, ok := Shift([]uint64{1}, k); ok || len(a) != 0 {
			t.Errorf("Shift(1, %d): %v, %v", k, a, ok)
		}
	}
	if a, ok := Shift([]uint64{2}, 4095); ok || len(a) != 0 {
		t.Errorf("Shift(2, 4095): %v, %v", a, ok)
	}
}

func TestCarryThroughAllWords(t *testing.T) { // P1.2
	one := []uint64{1}
	for n := 1; n < api.MaxWords; n++ {
		ones := words(n, allOnes)
		if a, ok := Add(ones, one); !ok || !slices.Equal(a, power(n)) {
			t.Errorf("Add of %d words: %v, %v", n, a, ok)
		}
		if a, ok := Add(one, ones); !ok || !slices.Equal(a, power(n)) {
			t.Errorf("Add of %d words, turned: %v, %v", n, a, ok)
		}
		if a, ok := Sub(power(n), one); !ok || !slices.Equal(a, ones) {
			t.Errorf("Sub of %d words: %v, %v", n, a, ok)
		}
	}
}

func TestDiv(t *testing.T) { // P1.3
	divisors := []uint64{0, 1, 2, 3, 7, 10, 1 << 32, 1<<63 - 1, 1 << 63, chunk, allOnes - 1, allOnes}
	for i, a := range samples() {
		for _, m := range divisors {
			what := fmt.Sprintf("Div of sample %d, %d", i, m)
			q, r, ok := Div(a, m)
			x := toBig(a)
			if m == 0 || tooGreat(x) {
				if ok || r != 0 || len(q) != 0 {
					t.Errorf("%s: %v, %d, %v; want nothing", what, q, r, ok)
				}
				continue
			}
			quotient, rest := new(big.Int).QuoRem(x, new(big.Int).SetUint64(m), new(big.Int))
			checkAnswer(t, what, q, ok, quotient)
			if r != rest.Uint64() {
				t.Errorf("%s: the rest %d, want %d", what, r, rest.Uint64())
			}
		}
	}
}

func TestText(t *testing.T) { // P1.3
	for i, a := range samples() {
		got, ok := Text(a)
		x := toBig(a)
		if tooGreat(x) {
			if ok || got != "" {
				t.Errorf("Text of sample %d: %q, %v", i, got, ok)
			}
			continue
		}
		if want := x.String(); !ok || got != want {
			t.Errorf("Text of sample %d: %q, %v; want %q", i, got, ok, want)
		}
	}
}

func TestTextExamples(t *testing.T) { // P1.3
	cases := []struct {
		a    []uint64
		want string
	}{
		{nil, "0"}, {[]uint64{}, "0"}, {[]uint64{0, 0}, "0"}, {[]uint64{7}, "7"}, {[]uint64{10, 0}, "10"},
		{[]uint64{allOnes}, "18446744073709551615"}, {[]uint64{0, 1}, "18446744073709551616"},
		{[]uint64{chunk}, "10000000000000000000"}, {[]uint64{chunk - 1}, "9999999999999999999"},
	}
	for _, c := range cases {
		if s, ok := Text(c.a); !ok || s != c.want {
			t.Errorf("Text(%v): %q, %v", c.a, s, ok)
		}
	}
}

func TestTextsOfPowersOfTen(t *testing.T) { // P1.3: noughts inside are told
	for n := range 1234 {
		want := "1" + strings.Repeat("0", n)
		a, ok := Parse(want)
		if !ok {
			t.Fatalf("Parse of 10 to %d", n)
		}
		if s, ok := Text(a); !ok || s != want {
			t.Errorf("Text of 10 to %d: %q, %v", n, s, ok)
		}
	}
}

func TestParse(t *testing.T) { // P1.3
	for i, a := range samples() {
		x := toBig(a)
		got, ok := Parse(x.String())
		checkAnswer(t, fmt.Sprintf("Parse of sample %d", i), got, ok, x)
	}
}

func TestParseExamples(t *testing.T) { // P1.3
	cases := []struct {
		s    string
		want []uint64
	}{
		{"0", nil}, {"1", []uint64{1}}, {"9", []uint64{9}}, {"10", []uint64{10}}, {"100200", []uint64{100200}},
		{"18446744073709551615", []uint64{allOnes}}, {"18446744073709551616", []uint64{0, 1}},
	}
	for _, c := range cases {
		if a, ok := Parse(c.s); !ok || !slices.Equal(a, c.want) {
			t.Errorf("Parse(%q): %v, %v", c.s, a, ok)
		}
	}
}

func TestParseWrong(t *testing.T) { // P1.3
	wrong := []string{
		"", " ", "00", "01", "0123", "000000", "-", "-0", "-1", "+1", "+", " 1", "1 ", "1\n", "\t1", "1 2",
		"1_000", "1,000", "1.0", ".", "1e3", "0x10", "a", "1a", "a1", "12/", "12:", "/", ":", "1\x00", "\x00",
		"\xff", "1\xff2", "٣", "1٣", "１", "½", "NaN", strings.Repeat("0", 5000), strings.Repeat("x", 5000),
		strings.Repeat("9", 30) + "x", "1" + strings.Repeat("0", 2000) + "x",
	}
	for _, s := range wrong {
		if a, ok := Parse(s); ok || len(a) != 0 {
			t.Errorf("Parse(%q): %v, %v", s, a, ok)
		}
	}
}

func TestParseTooGreat(t *testing.T) { // P1.3
	first := new(big.Int).Lsh(big.NewInt(1), 64*api.MaxWords)
	most := new(big.Int).Sub(first, big.NewInt(1))
	if a, ok := Parse(most.String()); !ok || !slices.Equal(a, words(64, allOnes)) {
		t.Errorf("Parse of the greatest: %v, %v", a, ok)
	}
	great := []string{
		first.String(), new(big.Int).Add(first, big.NewInt(1)).String(), most.String() + "0",
		strings.Repeat("9", 1234), "1" + strings.Repeat("0", 1234), strings.Repeat("7", 1<<20),
	}
	for _, s := range great {
		if a, ok := Parse(s); ok || len(a) != 0 {
			t.Errorf("Parse(%.20s..): %v, %v", s, a, ok)
		}
	}
}

func TestAnyOrder(t *testing.T) { // P1.4
	list := samples()
	for i, a := range list {
		b, c := list[(i*7+3)%len(list)], list[(i*11+5)%len(list)]
		sameBothWays(t, Add, a, b)
		sameBothWays(t, Mul, a, b)
		sameGrouped(t, Add, a, b, c)
		sameGrouped(t, Mul, a, b, c)
	}
}

func sameBothWays(t *testing.T, op func(a, b []uint64) ([]uint64, bool), a, b []uint64) {
	t.Helper()
	x, okX := op(a, b)
	y, okY := op(b, a)
	if okX != okY || !slices.Equal(x, y) {
		t.Errorf("of %v, %v: %v, %v, but turned %v, %v", a, b, x, okX, y, okY)
	}
}

// sameGrouped asks only where no step is too great: a product by 0 may be grouped so that one step is.
func sameGrouped(t *testing.T, op func(a, b []uint64) ([]uint64, bool), a, b, c []uint64) {
	t.Helper()
	ab, okAB := op(a, b)
	bc, okBC := op(b, c)
	if !okAB || !okBC {
		return
	}
	x, okX := op(ab, c)
	y, okY := op(a, bc)
	if okX != okY || !slices.Equal(x, y) {
		t.Errorf("of %v, %v, %v: %v, %v, but grouped otherwise %v, %v", a, b, c, x, okX, y, okY)
	}
}

func TestTakenAwayAgain(t *testing.T) { // P1.4
	for _, a := range samples() {
		for _, b := range samples() {
			sum, ok := Add(a, b)
			if !ok {
				continue
			}
			if back, ok := Sub(sum, b); !ok || Cmp(back, a) != 0 {
				t.Errorf("%v + %v - the second: %v, %v", a, b, back, ok)
			}
		}
	}
}

func TestQuotientAndRest(t *testing.T) { // P1.4
	for _, a := range samples() {
		for _, m := range []uint64{1, 2, 10, 1 << 63, chunk, allOnes} {
			q, r, ok := Div(a, m)
			if !ok {
				continue
			}
			product, okProduct := Mul(q, Of(m))
			back, okBack := Add(product, Of(r))
			if !okProduct || !okBack || Cmp(back, a) != 0 || r >= m {
				t.Errorf("of %v by %d: the quotient %v, the rest %d", a, m, q, r)
			}
		}
	}
}

func TestWrittenIsRead(t *testing.T) { // P1.4
	for _, a := range samples() {
		s, ok := Text(a)
		if !ok {
			continue
		}
		if back, ok := Parse(s); !ok || !slices.Equal(back, Norm(a)) {
			t.Errorf("%v is written %s and read %v, %v", a, s, back, ok)
		}
	}
}

// told: what every call tells of a and b, list by list.
func told(a, b []uint64) [][]uint64 {
	sum, _ := Add(a, b)
	less, _ := Sub(a, b)
	product, _ := Mul(a, b)
	quotient, _, _ := Div(a, 1)
	none, _ := Shift(a, 0)
	some, _ := Shift(a, 3)
	Cmp(a, b)
	Text(a)
	return [][]uint64{Norm(a), sum, less, product, quotient, none, some}
}

func TestHandedInStaysAsItIs(t *testing.T) { // R4
	for _, a := range samples() {
		for _, b := range [][]uint64{nil, {0}, {1}, {1, 0}, {3, 5}, a} {
			// Room behind the end shows whether a call writes there.
			x, y := roomy(a), roomy(b)
			told(x, y)
			if !slices.Equal(x, a) || !slices.Equal(y, b) || !emptyBehind(x) || !emptyBehind(y) {
				t.Errorf("handed in: %v, %v; now: %v, %v", a, b, x, y)
			}
		}
	}
}

// roomy: a, in memory that goes on behind its end.
func roomy(a []uint64) []uint64 {
	return append(make([]uint64, 0, len(a)+4), a...)
}

func emptyBehind(a []uint64) bool {
	for _, w := range a[len(a):cap(a)] {
		if w != 0 {
			return false
		}
	}
	return true
}

func TestToldSharesNoMemory(t *testing.T) { // R4
	for _, a := range samples() {
		for _, b := range [][]uint64{nil, {0}, {1}} {
			x, y := roomy(a), roomy(b)
			for i, list := range told(x, y) {
				spoil(list)
				if !slices.Equal(x, a) || !slices.Equal(y, b) || !emptyBehind(x) || !emptyBehind(y) {
					t.Fatalf("the answer %d of %v, %v shares memory with them", i, a, b)
				}
			}
		}
	}
}

func TestToldIsTheCallersOwn(t *testing.T) { // R4, R6: no two answers share memory
	a, b := []uint64{5, 6}, []uint64{1}
	first := told(a, b)
	for _, list := range first {
		spoil(list)
	}
	want := [][]uint64{{5, 6}, {6, 6}, {4, 6}, {5, 6}, {5, 6}, {5, 6}, {40, 48}}
	if again := told(a, b); !slices.EqualFunc(again, want, slices.Equal) {
		t.Errorf("told again: %v, want %v", again, want)
	}
	spoil(Of(7))
	if again := Of(7); !slices.Equal(again, []uint64{7}) {
		t.Errorf("Of again: %v", again)
	}
	read, _ := Parse("0")
	spoil(read)
	if again, ok := Parse("0"); !ok || len(again) != 0 {
		t.Errorf("Parse again: %v, %v", again, ok)
	}
}

// spoil writes all over a list's memory, also behind its end.
func spoil(list []uint64) {
	list = list[:cap(list)]
	for i := range list {
		list[i] = 0xbad
	}
}
