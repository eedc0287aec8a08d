package set

import (
	"encoding/binary"
	"fmt"
	"iter"
	"math"
	"math/big"
	"math/rand"
	"slices"
	"strings"
	"testing"

	"ramage/api"
)

// The tests hold sets against tables of truths, one for each assignment: table[x] tells whether x is in it.

// setOf: the set of a table, by the words of api alone.
func setOf(n int, table []bool) api.Set {
	words := make([]uint64, max(1, len(table)/64))
	for x, in := range table {
		if in {
			words[x/64] |= 1 << (x % 64)
		}
	}
	return api.Set{Vars: n, Words: words}
}

// tableOf: of a set that must be right.
func tableOf(s api.Set) []bool {
	table := make([]bool, 1<<s.Vars)
	for x := range table {
		table[x] = s.Words[x/64]&(1<<(x%64)) != 0
	}
	return table
}

// where: the table of n variables by a rule.
func where(n int, in func(x int) bool) []bool {
	table := make([]bool, 1<<n)
	for x := range table {
		table[x] = in(x)
	}
	return table
}

// put: x with v as 1 (or 0).
func put(x, v int, one bool) int {
	if one {
		return x | 1<<v
	}
	return x &^ (1 << v)
}

// random: a set of n variables, thin ones and thick ones.
func random(source *rand.Rand, n int) api.Set {
	most := 1 + source.Intn(8)
	return setOf(n, where(n, func(int) bool { return source.Intn(9) < most }))
}

// samples: sets of n variables, all of them where they are few.
func samples(n int) []api.Set {
	var l []api.Set
	if n <= 3 {
		for number := range 1 << (1 << n) {
			l = append(l, setOf(n, where(n, func(x int) bool { return number>>x&1 == 1 })))
		}
		return l
	}
	source := rand.New(rand.NewSource(int64(n)))
	l = append(l, setOf(n, make([]bool, 1<<n)), setOf(n, where(n, func(int) bool { return true })))
	l = append(l, setOf(n, where(n, func(x int) bool { return x == 1<<n-1 })), setOf(n, where(n, func(x int) bool { return x == 0 })))
	for range max(2, 12-n) {
		l = append(l, random(source, n))
	}
	// Some that hang on few variables.
	for range 3 {
		mask := source.Intn(1 << n)
		few := tableOf(random(source, n))
		l = append(l, setOf(n, where(n, func(x int) bool { return few[x&mask] })))
	}
	return l
}

// sizes: the numbers of variables that most tests go through: about one word, and the greatest.
func sizes() []int { return []int{0, 1, 2, 3, 4, 5, 6, 7, 8, 16} }

// wrong: sets that aren't right.
func wrong() []api.Set {
	l := []api.Set{
		{Vars: -1}, {Vars: -1, Words: []uint64{0}}, {Vars: -1, Words: []uint64{1}},
		{Vars: math.MinInt}, {Vars: math.MinInt, Words: []uint64{1}},
		{Vars: math.MaxInt}, {Vars: math.MaxInt, Words: []uint64{1}},
		{Vars: 17}, {Vars: 17, Words: []uint64{1}}, {Vars: 17, Words: make([]uint64, 2048)},
		{Vars: 32, Words: []uint64{1}}, {Vars: 63, Words: []uint64{1}}, {Vars: 64, Words: []uint64{1}}, {Vars: 65, Words: []uint64{1}},
		{}, {Words: []uint64{}}, {Words: []uint64{0, 0}}, {Words: []uint64{1, 0}}, {Words: []uint64{2}}, {Words: []uint64{1 << 63}},
		{Vars: 1, Words: []uint64{4}}, {Vars: 2, Words: []uint64{16}}, {Vars: 3, Words: []uint64{256}}, {Vars: 3, Words: []uint64{1 << 63}},
		{Vars: 5}, {Vars: 5, Words: []uint64{1 << 32}}, {Vars: 5, Words: []uint64{math.MaxUint64}}, {Vars: 5, Words: []uint64{0, 0}},
		{Vars: 6}, {Vars: 6, Words: []uint64{}}, {Vars: 6, Words: []uint64{1, 0}},
		{Vars: 7}, {Vars: 7, Words: []uint64{1}}, {Vars: 7, Words: []uint64{1, 1, 0}},
		{Vars: 8, Words: make([]uint64, 3)}, {Vars: 8, Words: make([]uint64, 5)},
	}
	for _, width := range []int{0, 1, 512, 1023, 1025, 2048} {
		l = append(l, api.Set{Vars: 16, Words: make([]uint64, width)})
	}
	return l
}

// brief: a set as a text that is short enough to be told.
func brief(s api.Set) string {
	return fmt.Sprintf("%d:%x", s.Vars, s.Words[:min(3, len(s.Words))])
}

// check: what was told is right, and the set of that table.
func check(t *testing.T, what string, got api.Set, err api.Err, n int, table []bool) {
	t.Helper()
	want := setOf(n, table)
	if err != api.OK || got.Vars != n || !slices.Equal(got.Words, want.Words) {
		t.Errorf("%s: %s, %v; not %s", what, brief(got), err, brief(want))
	}
}

// checkErr: beside this error stands the zero set.
func checkErr(t *testing.T, what string, got api.Set, err, want api.Err) {
	t.Helper()
	if err != want || got.Vars != 0 || got.Words != nil {
		t.Errorf("%s: %s, %v; not %v", what, brief(got), err, want)
	}
}

// collect: all of a row.
func collect(row iter.Seq[int]) []int {
	var l []int
	for x := range row {
		l = append(l, x)
	}
	return l
}

func TestRight(t *testing.T) { // P5.1
	for n := range 17 {
		for _, s := range samples(n) {
			if !Right(s) {
				t.Errorf("%s isn't right", brief(s))
			}
		}
	}
	for _, s := range wrong() {
		if Right(s) {
			t.Errorf("%s, of %d words, is right", brief(s), len(s.Words))
		}
	}
	for n := range 6 {
		for place := range 64 {
			s := api.Set{Vars: n, Words: []uint64{1 << place}}
			if Right(s) != (place < 1<<n) {
				t.Errorf("%s: %v", brief(s), Right(s))
			}
		}
	}
	for n := range 17 {
		width := max(1, 1<<n/64)
		for length := range 1100 {
			if s := (api.Set{Vars: n, Words: make([]uint64, length)}); Right(s) != (length == width) {
				t.Errorf("of %d variables, in %d words: %v", n, length, Right(s))
			}
		}
	}
}

func TestNothingAndAll(t *testing.T) { // P5.1
	for n := range 17 {
		s, err := Nothing(n)
		check(t, fmt.Sprint("Nothing of ", n), s, err, n, make([]bool, 1<<n))
		s, err = All(n)
		check(t, fmt.Sprint("All of ", n), s, err, n, where(n, func(int) bool { return true }))
	}
	for _, n := range []int{-1, 17, 64, 65, -64, math.MinInt, math.MaxInt} {
		s, err := Nothing(n)
		checkErr(t, fmt.Sprint("Nothing of ", n), s, err, api.Var)
		s, err = All(n)
		checkErr(t, fmt.Sprint("All of ", n), s, err, api.Var)
	}
}

func TestOf(t *testing.T) { // P5.1
	for n := range 17 {
		for _, none := range [][]int{nil, {}} {
			s, err := Of(n, none)
			check(t, fmt.Sprint("Of no number, ", n), s, err, n, make([]bool, 1<<n))
		}
		greatest := 1<<n - 1
		for _, l := range [][]int{{0}, {greatest}, {greatest, 0, greatest}, {0, 0}, {greatest / 2, greatest, greatest / 2}} {
			s, err := Of(n, l)
			check(t, fmt.Sprint("Of ", n, l), s, err, n, where(n, func(x int) bool { return slices.Contains(l, x) }))
		}
		for _, x := range []int{-1, greatest + 1, -greatest - 1, -64, 1 << 16, 1 << 40, math.MinInt, math.MaxInt} {
			for _, l := range [][]int{{x}, {0, x}, {x, 0}, {0, greatest, x, 0}} {
				s, err := Of(n, l)
				checkErr(t, fmt.Sprint("Of ", n, l), s, err, api.Arg)
			}
		}
	}
	source := rand.New(rand.NewSource(5))
	for _, n := range sizes() {
		l := make([]int, source.Intn(200))
		for i := range l {
			l[i] = source.Intn(1 << n)
		}
		s, err := Of(n, l)
		check(t, fmt.Sprint("Of some, ", n), s, err, n, where(n, func(x int) bool { return slices.Contains(l, x) }))
	}
	for _, n := range []int{-1, 17, math.MinInt, math.MaxInt} {
		for _, l := range [][]int{nil, {0}, {-1}, {math.MaxInt}} { // Var stands ahead of Arg
			s, err := Of(n, l)
			checkErr(t, fmt.Sprint("Of ", n, l), s, err, api.Var)
		}
	}
}

func TestSingle(t *testing.T) { // P5.1
	for n := range 17 {
		for v := range n {
			s, err := Single(n, v)
			check(t, fmt.Sprint("Single of ", n, " ", v), s, err, n, where(n, func(x int) bool { return x>>v&1 == 1 }))
		}
		for _, v := range []int{-1, n, n + 1, 64, math.MinInt, math.MaxInt} {
			s, err := Single(n, v)
			checkErr(t, fmt.Sprint("Single of ", n, " ", v), s, err, api.Var)
		}
	}
	for _, n := range []int{-1, 17, math.MinInt, math.MaxInt} {
		for _, v := range []int{-1, 0, 16, n, math.MaxInt} {
			s, err := Single(n, v)
			checkErr(t, fmt.Sprint("Single of ", n, " ", v), s, err, api.Var)
		}
	}
}

func TestHasCountMembers(t *testing.T) { // P5.1
	for n := range 17 {
		for _, s := range samples(n) {
			var want []int
			for x, in := range tableOf(s) {
				if Has(s, x) != in {
					t.Errorf("%s: Has of %d: %v", brief(s), x, !in)
				}
				if in {
					want = append(want, x)
				}
			}
			if Count(s) != len(want) {
				t.Errorf("%s: Count: %d, not %d", brief(s), Count(s), len(want))
			}
			if got := collect(Members(s)); !slices.Equal(got, want) {
				t.Errorf("%s: Members: %.60v", brief(s), got)
			}
			for _, x := range []int{-1, -64, 1 << n, 1<<n + 63, 1 << 16, 1<<16 + 1, math.MinInt, math.MaxInt} {
				if Has(s, x) {
					t.Errorf("%s: Has of %d", brief(s), x)
				}
			}
		}
	}
}

func TestAskedOfWrongSets(t *testing.T) { // P5.1, P5.2: what is told of a set that isn't right
	for _, s := range wrong() {
		for _, x := range []int{-1, 0, 1, 2, 31, 32, 63, 64, 65535, math.MinInt, math.MaxInt} {
			if Has(s, x) {
				t.Errorf("%s: Has of %d", brief(s), x)
			}
		}
		if Count(s) != 0 || Support(s) != 0 {
			t.Errorf("%s: Count %d, Support %x", brief(s), Count(s), Support(s))
		}
		row := Members(s)
		if row == nil {
			t.Fatalf("%s: a nil row", brief(s))
		}
		if l := collect(row); l != nil {
			t.Errorf("%s: Members: %v", brief(s), l)
		}
	}
}

func TestMembersAgain(t *testing.T) { // P5.1, Ways
	s := setOf(8, where(8, func(x int) bool { return x%5 == 2 || x == 64 || x == 255 }))
	row := Members(s)
	all := collect(row)
	if len(all) != Count(s) || !slices.IsSorted(all) || !slices.Equal(collect(row), all) {
		t.Errorf("gone through again: %v, %v", all, collect(row))
	}
	for stop := range all {
		var got []int
		for x := range row {
			got = append(got, x)
			if len(got) == stop+1 {
				break
			}
		}
		if !slices.Equal(got, all[:stop+1]) {
			t.Errorf("left at %d: %v", stop, got)
		}
		asked := 0
		row(func(int) bool { asked++; return asked <= stop })
		if asked != stop+1 {
			t.Errorf("left at %d: told %d", stop, asked)
		}
	}
	pairs := 0
	for range row { // one within the other
		pairs += len(collect(row))
	}
	if pairs != len(all)*len(all) {
		t.Errorf("within itself: %d", pairs)
	}
}

func TestMembersOfChangedWords(t *testing.T) { // R4
	s := setOf(7, where(7, func(x int) bool { return x%3 == 0 }))
	row := Members(s)
	want := collect(Members(s))
	var got []int
	for x := range row {
		s.Words[0], s.Words[1] = ^s.Words[0], 0
		got = append(got, x)
	}
	if !slices.Equal(got, want) || !slices.Equal(collect(row), want) {
		t.Errorf("of words that were changed: %v, then %v", got, collect(row))
	}
	odd := api.Set{Vars: 0, Words: []uint64{2}}
	row = Members(odd)
	odd.Words[0] = 1
	if l := collect(row); l != nil {
		t.Errorf("of a set that wasn't right when it was asked: %v", l)
	}
}

func TestSame(t *testing.T) { // P5.1
	var l []api.Set
	for n := range 3 {
		l = append(l, samples(n)...)
	}
	l = append(l, samples(7)...)
	l = append(l, samples(16)...)
	l = append(l, wrong()...)
	for _, a := range l {
		copied := api.Set{Vars: a.Vars, Words: slices.Clone(a.Words)}
		if !Same(a, copied) || !Same(copied, a) || !Same(a, a) {
			t.Errorf("%s and its copy aren't the same", brief(a))
		}
		for _, b := range l {
			if want := a.Vars == b.Vars && slices.Equal(a.Words, b.Words); Same(a, b) != want {
				t.Errorf("Same of %s and %s: %v", brief(a), brief(b), !want)
			}
		}
		if longer := (api.Set{Vars: a.Vars, Words: append(slices.Clone(a.Words), 0)}); Same(a, longer) || Same(longer, a) {
			t.Errorf("%s is the same with a word more", brief(a))
		}
		if other := (api.Set{Vars: a.Vars ^ 1, Words: a.Words}); Same(a, other) {
			t.Errorf("%s is the same with other Vars", brief(a))
		}
	}
	// R3: a list without things may be nil or empty.
	if !Same(api.Set{Vars: 3}, api.Set{Vars: 3, Words: []uint64{}}) {
		t.Error("without words: not the same")
	}
}

// truth: what an operation tells of a and b.
func truth(op int, a, b bool) bool {
	place := 0
	if a {
		place += 2
	}
	if b {
		place++
	}
	return op/(1<<place)%2 == 1
}

func TestOp(t *testing.T) { // P5.2
	for _, n := range sizes() {
		l := samples(n)
		source := rand.New(rand.NewSource(11))
		for range 12 {
			a, b := l[source.Intn(len(l))], l[source.Intn(len(l))]
			in, other := tableOf(a), tableOf(b)
			for op := range 16 {
				s, err := Op(op, a, b)
				check(t, fmt.Sprintf("Op(%d, %s, %s)", op, brief(a), brief(b)), s, err, n, where(n, func(x int) bool { return truth(op, in[x], other[x]) }))
			}
		}
	}
	a, b := api.Set{Vars: 2, Words: []uint64{0xc}}, api.Set{Vars: 2, Words: []uint64{0xa}}
	for op, want := range map[int]uint64{8: 0x8, 14: 0xe, 6: 0x6, 4: 0x4, 0: 0, 15: 0xf, 1: 0x1, 2: 0x2, 12: 0xc, 10: 0xa} {
		if s, err := Op(op, a, b); err != api.OK || s.Words[0] != want {
			t.Errorf("Op(%d) of 2:c and 2:a: %s, %v", op, brief(s), err)
		}
	}
	for _, op := range []int{-1, 16, 17, 256, 1 << 32, math.MinInt, math.MaxInt} {
		s, err := Op(op, a, b)
		checkErr(t, fmt.Sprintf("Op(%d)", op), s, err, api.Arg)
		s, err = Op(op, a, api.Set{})
		checkErr(t, fmt.Sprintf("Op(%d) of a wrong one", op), s, err, api.Arg)
	}
}

func TestIte(t *testing.T) { // P5.2
	for _, n := range sizes() {
		l := samples(n)
		source := rand.New(rand.NewSource(12))
		for range 60 / (1 + n/8) {
			f, g, h := l[source.Intn(len(l))], l[source.Intn(len(l))], l[source.Intn(len(l))]
			cond, then, other := tableOf(f), tableOf(g), tableOf(h)
			s, err := Ite(f, g, h)
			check(t, fmt.Sprintf("Ite(%s, %s, %s)", brief(f), brief(g), brief(h)), s, err, n, where(n, func(x int) bool { return cond[x] && then[x] || !cond[x] && other[x] }))
		}
	}
}

func TestWith(t *testing.T) { // P5.2
	for _, n := range sizes() {
		for _, s := range samples(n) {
			table := tableOf(s)
			for v := range n {
				for _, one := range []bool{false, true} {
					got, err := With(s, v, one)
					check(t, fmt.Sprintf("With(%s, %d, %v)", brief(s), v, one), got, err, n, where(n, func(x int) bool { return table[put(x, v, one)] }))
				}
			}
		}
	}
}

// some: for each x, whether it is in the table with vars set in some way.
func some(n int, table []bool, vars int) []bool {
	seen := make([]bool, 1<<n)
	for y, in := range table {
		seen[y&^vars] = seen[y&^vars] || in
	}
	return where(n, func(x int) bool { return seen[x&^vars] })
}

// each: for each x, whether it is in the table with vars set in whatever way.
func each(n int, table []bool, vars int) []bool {
	missed := some(n, where(n, func(x int) bool { return !table[x] }), vars)
	return where(n, func(x int) bool { return !missed[x] })
}

func TestExistsAndForall(t *testing.T) { // P5.2
	for _, n := range sizes() {
		source := rand.New(rand.NewSource(13))
		for _, s := range samples(n) {
			table := tableOf(s)
			all := 1<<n - 1
			for _, vars := range []int{0, all, source.Intn(all + 1), source.Intn(all+1) & source.Intn(all+1), (1 << n) >> 1, all & 1, all & 0x60} {
				got, err := Exists(s, uint16(vars))
				check(t, fmt.Sprintf("Exists(%s, %x)", brief(s), vars), got, err, n, some(n, table, vars))
				got, err = Forall(s, uint16(vars))
				check(t, fmt.Sprintf("Forall(%s, %x)", brief(s), vars), got, err, n, each(n, table, vars))
			}
		}
	}
}

func TestCompose(t *testing.T) { // P5.2
	for _, n := range sizes() {
		l := samples(n)
		source := rand.New(rand.NewSource(14))
		for range 30 / (1 + n/8) {
			s, g := l[source.Intn(len(l))], l[source.Intn(len(l))]
			table, one := tableOf(s), tableOf(g)
			for v := range n {
				got, err := Compose(s, v, g)
				check(t, fmt.Sprintf("Compose(%s, %d, %s)", brief(s), v, brief(g)), got, err, n, where(n, func(x int) bool { return table[put(x, v, one[x])] }))
			}
		}
	}
}

func TestSupport(t *testing.T) { // P5.2
	for n := range 17 {
		for _, s := range samples(n) {
			table := tableOf(s)
			var want uint16
			for v := range n {
				for x := range table {
					if table[put(x, v, true)] != table[put(x, v, false)] {
						want |= 1 << v
						break
					}
				}
			}
			if got := Support(s); got != want {
				t.Errorf("Support(%s): %x, not %x", brief(s), got, want)
			}
		}
		for v := range n {
			s := setOf(n, where(n, func(x int) bool { return x>>v&1 == 0 }))
			if got := Support(s); got != 1<<v {
				t.Errorf("Support of that %d is 0: %x", v, got)
			}
		}
	}
}

func TestWrongVariables(t *testing.T) { // P5.2
	for n := range 17 {
		s := setOf(n, where(n, func(x int) bool { return x%3 == 0 }))
		for _, v := range []int{-1, n, n + 1, 16, 17, 64, math.MinInt, math.MaxInt} {
			for _, one := range []bool{false, true} {
				got, err := With(s, v, one)
				checkErr(t, fmt.Sprintf("With, %d of %d", v, n), got, err, api.Var)
			}
			got, err := Compose(s, v, s)
			checkErr(t, fmt.Sprintf("Compose, %d of %d", v, n), got, err, api.Var)
		}
		for v := n; v < 16; v++ {
			for _, vars := range []uint16{1 << v, 1<<v | (1<<n - 1), 1<<v | 1<<15, math.MaxUint16} {
				got, err := Exists(s, vars)
				checkErr(t, fmt.Sprintf("Exists, %x of %d", vars, n), got, err, api.Var)
				got, err = Forall(s, vars)
				checkErr(t, fmt.Sprintf("Forall, %x of %d", vars, n), got, err, api.Var)
			}
		}
	}
}

// pairs: calls of two sets, with all else right for one of n variables above 0, or wrong.
func pairs(a, b api.Set, v, op int) map[string]func() (api.Set, api.Err) {
	return map[string]func() (api.Set, api.Err){
		"Op":       func() (api.Set, api.Err) { return Op(op, a, b) },
		"Ite f, g": func() (api.Set, api.Err) { return Ite(a, b, a) },
		"Ite f, h": func() (api.Set, api.Err) { return Ite(a, a, b) },
		"Ite g, h": func() (api.Set, api.Err) { return Ite(b, b, a) },
		"Compose":  func() (api.Set, api.Err) { return Compose(a, v, b) },
	}
}

func TestWrongSets(t *testing.T) { // P5.2, P5.3, P5.4: Arg, ahead of all else
	good := setOf(3, where(3, func(x int) bool { return x > 4 }))
	for _, s := range wrong() {
		for _, v := range []int{0, -1, 16, math.MinInt, math.MaxInt} {
			calls := pairs(s, s, v, 8)
			for _, more := range []map[string]func() (api.Set, api.Err){
				pairs(api.Set{Vars: s.Vars, Words: []uint64{1}}, s, v, 8), pairs(s, good, v, v), pairs(good, s, v, 8),
			} {
				for what, call := range more {
					calls[fmt.Sprint(what, ", ", len(calls))] = call
				}
			}
			calls["With 1"] = func() (api.Set, api.Err) { return With(s, v, true) }
			calls["With 0"] = func() (api.Set, api.Err) { return With(s, v, false) }
			calls["Exists"] = func() (api.Set, api.Err) { return Exists(s, uint16(v)) }
			calls["Forall"] = func() (api.Set, api.Err) { return Forall(s, uint16(v)) }
			calls["Rename"] = func() (api.Set, api.Err) { return Rename(s, same(min(max(s.Vars, 0), 20))) }
			calls["Rename by nil"] = func() (api.Set, api.Err) { return Rename(s, nil) }
			for what, call := range calls {
				got, err := call()
				checkErr(t, fmt.Sprintf("%s of %s, %d", what, brief(s), v), got, err, api.Arg)
			}
		}
		if text, err := Text(s); text != "" || err != api.Arg {
			t.Errorf("Text of %s: %.60s, %v", brief(s), text, err)
		}
	}
}

func TestUnlikeSets(t *testing.T) { // P5.2: Arg, ahead of Var
	for n := range 17 {
		for other := range 17 {
			if n == other {
				continue
			}
			a, b := setOf(n, make([]bool, 1<<n)), setOf(other, make([]bool, 1<<other))
			for _, v := range []int{0, -1, n, other, 16} {
				for what, call := range pairs(a, b, v, 6) {
					got, err := call()
					checkErr(t, fmt.Sprintf("%s of %d and %d variables, %d", what, n, other, v), got, err, api.Arg)
				}
			}
		}
	}
}

// same: the permutation that leaves all as it is.
func same(n int) []int {
	p := make([]int, n)
	for i := range p {
		p[i] = i
	}
	return p
}

// permutations: some of n numbers.
func permutations(n int) [][]int {
	source := rand.New(rand.NewSource(15))
	turned := same(n)
	slices.Reverse(turned)
	l := [][]int{same(n), turned}
	for range 6 {
		l = append(l, source.Perm(n))
	}
	return l
}

func TestRename(t *testing.T) { // P5.3
	for _, n := range sizes() {
		for i, s := range samples(n) {
			table := tableOf(s)
			for _, p := range permutations(n) {
				if n == 3 && i%7 > 0 || n == 16 && i%3 > 0 {
					continue
				}
				got, err := Rename(s, p)
				check(t, fmt.Sprintf("Rename(%s, %v)", brief(s), p), got, err, n, where(n, func(x int) bool {
					y := 0
					for v := range n {
						y += x >> p[v] & 1 << v
					}
					return table[y]
				}))
			}
		}
	}
	for n := range 17 {
		p := permutations(n)[2]
		for v := range n {
			s, _ := Single(n, v)
			got, err := Rename(s, p)
			check(t, fmt.Sprintf("Rename of that %d is 1 by %v", v, p), got, err, n, where(n, func(x int) bool { return x>>p[v]&1 == 1 }))
		}
	}
}

func TestRenameByNoPermutation(t *testing.T) { // P5.3
	for n := range 17 {
		s := setOf(n, where(n, func(x int) bool { return x%3 != 1 }))
		lists := [][]int{append(same(n), n), append(same(n), 0), append(same(n), -1), same(n + 1), same(20), make([]int, 1000)}
		if n > 0 {
			lists = append(lists, nil, []int{}, same(n)[1:], same(n)[:n-1], same(n + 1)[1:])
		}
		for place := range n {
			for _, number := range []int{-1, n, n + 64, math.MinInt, math.MaxInt, (place + 1) % n} {
				p := same(n)
				p[place] = number
				if number != place {
					lists = append(lists, p)
				}
			}
		}
		for _, p := range lists {
			got, err := Rename(s, p)
			checkErr(t, fmt.Sprintf("Rename, of %d, %.80s", n, fmt.Sprint(p)), got, err, api.Arg)
		}
	}
	for _, none := range [][]int{nil, {}} {
		got, err := Rename(api.Set{Words: []uint64{1}}, none)
		check(t, "Rename of no variable", got, err, 0, []bool{true})
	}
}

// written: the text of a set, by way of one great number.
func written(n int, table []bool) string {
	number := new(big.Int)
	for x, in := range table {
		if in {
			number.SetBit(number, x, 1)
		}
	}
	digits := (len(table) + 3) / 4
	text := number.Text(16)
	return fmt.Sprintf("%d:%s%s", n, strings.Repeat("0", digits-len(text)), text)
}

func TestTextExamples(t *testing.T) { // P5.4
	for _, c := range []struct {
		s    api.Set
		want string
	}{
		{api.Set{Vars: 0, Words: []uint64{0}}, "0:0"},
		{api.Set{Vars: 0, Words: []uint64{1}}, "0:1"},
		{api.Set{Vars: 1, Words: []uint64{3}}, "1:3"},
		{api.Set{Vars: 2, Words: []uint64{15}}, "2:f"},
		{api.Set{Vars: 3, Words: []uint64{0xaa}}, "3:aa"},
		{api.Set{Vars: 3, Words: []uint64{0}}, "3:00"},
		{api.Set{Vars: 5, Words: []uint64{0x1234abcd}}, "5:1234abcd"},
		{api.Set{Vars: 6, Words: []uint64{0x0123456789abcdef}}, "6:0123456789abcdef"},
		{api.Set{Vars: 7, Words: []uint64{1, 0xf0}}, "7:00000000000000f00000000000000001"},
	} {
		if text, err := Text(c.s); err != api.OK || text != c.want {
			t.Errorf("Text(%s): %s, %v; not %s", brief(c.s), text, err, c.want)
		}
		if s, err := Parse(c.want); err != api.OK || s.Vars != c.s.Vars || !slices.Equal(s.Words, c.s.Words) {
			t.Errorf("Parse(%s): %s, %v", c.want, brief(s), err)
		}
	}
}

func TestTextAndParse(t *testing.T) { // P5.4, P5.5: what is written is read
	for n := range 17 {
		for _, s := range samples(n) {
			want := written(n, tableOf(s))
			text, err := Text(s)
			if err != api.OK || text != want {
				t.Errorf("Text(%s): %.60s, %v; not %.60s", brief(s), text, err, want)
			}
			got, err := Parse(want)
			check(t, "Parse of "+want[:min(60, len(want))], got, err, n, tableOf(s))
			if !Same(got, s) || !Right(got) {
				t.Errorf("%s is read as %s", brief(s), brief(got))
			}
		}
	}
}

func TestParseOfOtherTexts(t *testing.T) { // P5.4
	texts := []string{
		"", ":", "0", "0:", ":0", ":1", "::", "0::0", "0:0:", ":0:0", "0:0:0", "2", "2f", "2;f", "2 f", "f:2", "a:0",
		"0:2", "0:3", "0:4", "0:8", "0:f", "1:4", "1:7", "1:8", "1:f",
		"00:0", "01:0", "02:f", "+2:f", "-2:f", "-0:0", "+0:0", "-1:0", "2.0:f", "2e0:f", "0x2:f", "1_0:f", " 2:f", "2 :f", "2: f", "2:f ", "2:f\n", "\x002:f", "2:\x00",
		"2:F", "3:AA", "3:aA", "3:Aa", "3:4A", "2:g", "2:/", "2:`", "2:@", "2:G", "2:x", "2:-", "2:+", "2:_", "2:é", "3:é", "3:\xff\xfe", "3:0x", "3:+1", "3:-1", "3:1_", "3:_1", "3: 1", "3:1 ",
		"٢:f", "２:f", "2：f", "2:ｆ",
		"17:0", "18:0", "20:0", "99:0", "100:0", "160:0", "016:0", "18446744073709551616:0", "18446744073709551618:f", "99999999999999999999999:0",
		"17:" + strings.Repeat("0", 1<<15), "016:" + strings.Repeat("0", 1<<14), strings.Repeat("0", 5000) + ":0", strings.Repeat("1", 5000), strings.Repeat(":", 5000),
	}
	for n := range 17 {
		text := written(n, where(n, func(x int) bool { return x%3 == 0 }))
		head, number, _ := strings.Cut(text, ":")
		texts = append(texts, head, head+number, head+":", head+":"+number[1:], head+":"+number[:len(number)-1], text+"0", head+":0"+number, " "+text, text+" ", "0"+text, "+"+text, "-"+text, head+"::"+number, text+":", text+text, head+":"+strings.Replace(number, "9", "G", 1)+"G")
		for _, place := range []int{0, len(number) / 2, len(number) - 1} {
			for _, sign := range []byte{'A', 'F', 'g', 'G', '/', ':', '@', '`', ' ', 0, 0x80, 0xff, '-'} {
				other := []byte(number)
				other[place] = sign
				texts = append(texts, head+":"+string(other))
			}
		}
	}
	for _, text := range texts {
		s, err := Parse(text)
		checkErr(t, fmt.Sprintf("Parse of %.60q, %d bytes", text, len(text)), s, err, api.Text)
	}
}

func TestParseSigns(t *testing.T) { // P5.4: each byte as a digit, and as the number of variables
	for sign := range 256 {
		want := strings.IndexByte("0123456789abcdef", byte(sign))
		s, err := Parse("2:" + string([]byte{byte(sign)}))
		if want < 0 {
			checkErr(t, fmt.Sprintf("Parse of 2: and %x", sign), s, err, api.Text)
		} else if err != api.OK || s.Vars != 2 || s.Words[0] != uint64(want) {
			t.Errorf("Parse of 2: and %x: %s, %v", sign, brief(s), err)
		}
		s, err = Parse(string([]byte{byte(sign)}) + ":0")
		if n := sign - '0'; n >= 0 && n <= 2 {
			check(t, fmt.Sprint("Parse of nothing of ", n), s, err, n, make([]bool, 1<<n))
		} else {
			checkErr(t, fmt.Sprintf("Parse of %x and :0", sign), s, err, api.Text)
		}
	}
}

func TestRenamedThereAndBack(t *testing.T) { // P5.5
	for n := range 17 {
		for _, p := range permutations(n) {
			back := make([]int, n)
			for v, to := range p {
				back[to] = v
			}
			for i, s := range samples(n) {
				if n == 3 && i%9 > 0 {
					continue
				}
				there, err := Rename(s, p)
				if err != api.OK || Count(there) != Count(s) {
					t.Fatalf("Rename(%s, %v): %s, %v", brief(s), p, brief(there), err)
				}
				again, err := Rename(there, back)
				if err != api.OK || !Same(again, s) {
					t.Errorf("%s there by %v and back is %s, %v", brief(s), p, brief(again), err)
				}
			}
		}
	}
}

func TestExamples(t *testing.T) { // the chapter's Examples
	all, _ := All(2)
	if text, _ := Text(all); text != "2:f" {
		t.Errorf("All(2): %s", text)
	}
	one, _ := Single(3, 0)
	if text, _ := Text(one); text != "3:aa" {
		t.Errorf("Single(3, 0): %s", text)
	}
}

// scribble fills words, and the room behind them.
func scribble(words []uint64) {
	words = words[:cap(words)]
	for i := range words {
		words[i] = 0xdeadbeefdeadbeef
	}
}

// roomy: a copy of a set with room behind its words.
func roomy(s api.Set) api.Set {
	words := make([]uint64, len(s.Words), len(s.Words)+4)
	copy(words, s.Words)
	return api.Set{Vars: s.Vars, Words: words}
}

// tellers: every call of sets that tells one.
func tellers(a, b, c api.Set, p, l []int) map[string]func() (api.Set, api.Err) {
	n := a.Vars
	calls := map[string]func() (api.Set, api.Err){
		"Nothing":       func() (api.Set, api.Err) { return Nothing(n) },
		"All":           func() (api.Set, api.Err) { return All(n) },
		"Of":            func() (api.Set, api.Err) { return Of(n, l) },
		"Single":        func() (api.Set, api.Err) { return Single(n, n-1) },
		"Ite":           func() (api.Set, api.Err) { return Ite(a, b, c) },
		"Ite of one":    func() (api.Set, api.Err) { return Ite(a, a, a) },
		"With 1":        func() (api.Set, api.Err) { return With(a, n-1, true) },
		"With 0":        func() (api.Set, api.Err) { return With(a, 0, false) },
		"Exists none":   func() (api.Set, api.Err) { return Exists(a, 0) },
		"Exists":        func() (api.Set, api.Err) { return Exists(a, 3) },
		"Forall none":   func() (api.Set, api.Err) { return Forall(a, 0) },
		"Forall":        func() (api.Set, api.Err) { return Forall(a, 3) },
		"Compose":       func() (api.Set, api.Err) { return Compose(a, n-1, b) },
		"Compose twice": func() (api.Set, api.Err) { return Compose(a, 0, a) },
		"Rename":        func() (api.Set, api.Err) { return Rename(a, p) },
		"Parse":         func() (api.Set, api.Err) { text, _ := Text(a); return Parse(text) },
	}
	for op := range 16 {
		calls[fmt.Sprint("Op ", op)] = func() (api.Set, api.Err) { return Op(op, a, b) }
	}
	return calls
}

func TestNewMemory(t *testing.T) { // R4: what is handed in stays, and shares nothing with what is told
	for _, n := range []int{2, 5, 6, 8} {
		source := rand.New(rand.NewSource(16))
		first, second, third := random(source, n), random(source, n), random(source, n)
		numbers := []int{0, 1<<n - 1, 1}
		for what := range tellers(first, second, third, nil, nil) {
			a, b, c, p, l := roomy(first), roomy(second), roomy(third), append(make([]int, 0, 20), same(n)...), append(make([]int, 0, 9), numbers...)
			call := tellers(a, b, c, p, l)[what]
			one, err := call()
			two, again := call()
			if err != api.OK || again != api.OK || !Same(one, two) {
				t.Fatalf("%s: %s, %v, then %s, %v", what, brief(one), err, brief(two), again)
			}
			want := slices.Clone(two.Words)
			scribble(one.Words)
			if !Same(a, first) || !Same(b, second) || !Same(c, third) || !slices.Equal(p, same(n)) || !slices.Equal(l, numbers) {
				t.Errorf("%s: what was handed in is another one", what)
			}
			for _, s := range []api.Set{a, b, c} {
				if room := s.Words[len(s.Words):cap(s.Words)]; slices.Max(room) != 0 {
					t.Errorf("%s: the room behind what was handed in is %x", what, room)
				}
				scribble(s.Words)
			}
			clear(p)
			clear(l)
			if !slices.Equal(two.Words, want) {
				t.Errorf("%s: what was told is another one now", what)
			}
		}
	}
}

func TestAskingChangesNothing(t *testing.T) { // R4
	for _, s := range append(samples(7), wrong()...) {
		kept := api.Set{Vars: s.Vars, Words: slices.Clone(s.Words)}
		Right(s)
		Has(s, 1)
		Count(s)
		collect(Members(s))
		Support(s)
		Same(s, kept)
		Text(s)
		if s.Vars != kept.Vars || !slices.Equal(s.Words, kept.Words) {
			t.Errorf("%s is %s now", brief(kept), brief(s))
		}
	}
}

func FuzzParse(f *testing.F) { // P5.4, P5.5, R1
	for _, text := range []string{"2:f", "3:aa", "0:2", "03:00", "16:", "6:0123456789abcdef"} {
		f.Add(text)
	}
	f.Fuzz(func(t *testing.T, text string) {
		s, err := Parse(text)
		if err != api.OK {
			checkErr(t, text, s, err, api.Text)
			return
		}
		if again, err := Text(s); err != api.OK || again != text || !Right(s) {
			t.Errorf("%s is read as %s, which is %s, %v", text, brief(s), again, err)
		}
	})
}

func FuzzSets(f *testing.F) { // R1: any words, any numbers
	f.Add(7, make([]byte, 16), make([]byte, 16), 3, 8, uint16(5))
	f.Add(math.MinInt, []byte{1}, []byte{}, -1, 16, uint16(0))
	f.Fuzz(func(t *testing.T, n int, first, second []byte, v, op int, vars uint16) {
		a, b := api.Set{Vars: n, Words: wordsOf(first)}, api.Set{Vars: n, Words: wordsOf(second)}
		if n >= 0 && n < 6 && len(first) > 8 && len(second) > 8 {
			a.Words, b.Words = a.Words[:1], b.Words[:1]
			a.Words[0] &= 1<<(1<<n) - 1
		}
		for what, call := range pairs(a, b, v, op) {
			got, err := call()
			if err == api.OK && (!Right(a) || !Right(b) || !Right(got)) || err != api.OK && !Same(got, api.Set{}) {
				t.Errorf("%s of %s and %s: %s, %v", what, brief(a), brief(b), brief(got), err)
			}
		}
		if exists, err := Exists(a, vars); err == api.OK {
			forall, _ := Forall(a, vars)
			over, _ := Op(2, exists, a)
			under, _ := Op(4, forall, a)
			if Count(over) != 0 || Count(under) != 0 || Support(exists)&vars != 0 || Support(forall)&vars != 0 {
				t.Errorf("%s, %x: Exists %s, Forall %s", brief(a), vars, brief(exists), brief(forall))
			}
		}
		With(a, v, op > 0)
		Rename(a, []int{v, op, n})
		Of(n, []int{v, op})
		Single(n, v)
		Has(a, v)
	})
}

// wordsOf: of bytes, the rest of less than a word left out.
func wordsOf(b []byte) []uint64 {
	var words []uint64
	for ; len(b) >= 8; b = b[8:] {
		words = append(words, binary.LittleEndian.Uint64(b))
	}
	return words
}
