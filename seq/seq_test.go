package seq

import (
	"fmt"
	"iter"
	"math"
	"math/big"
	"math/rand"
	"slices"
	"testing"
)

// probe is a row that counts what is asked of it: each thing, and its end, too.
type probe struct {
	things []int
	asked  int
}

func (p *probe) row() iter.Seq[int] {
	return func(yield func(int) bool) {
		for _, x := range p.things {
			p.asked++
			if !yield(x) {
				return
			}
		}
		p.asked++
	}
}

// endless: from, from + 1, .., with a count of what is asked.
func endless(from int, asked *int) iter.Seq[int] {
	return func(yield func(int) bool) {
		for x := from; ; x++ {
			*asked++
			if !yield(x) {
				return
			}
		}
	}
}

// counting: from, from + 1, .., of n numbers.
func counting(from, n int) []int {
	l := make([]int, n)
	for i := range l {
		l[i] = from + i
	}
	return l
}

// told: the things of a row, the first ones alone if there are more than most.
func told[T any](s iter.Seq[T], most int) []T {
	var l []T
	for x := range s {
		l = append(l, x)
		if len(l) > most {
			break
		}
	}
	return l
}

// checkRow: the row tells what is wanted, again and again, and stops wherever it is left.
func checkRow[T comparable](t *testing.T, what string, s iter.Seq[T], want []T) {
	t.Helper()
	if s == nil {
		t.Errorf("%s: a nil row", what)
		return
	}
	for range 2 {
		if l := told(s, len(want)); !slices.Equal(l, want) {
			t.Errorf("%s: %v, not %v", what, l, want)
			return
		}
	}
	for stop := 1; stop <= len(want); stop++ {
		var l []T
		s(func(x T) bool {
			l = append(l, x)
			return len(l) < stop
		})
		if !slices.Equal(l, want[:stop]) {
			t.Errorf("%s, left at %d: %v, not %v", what, stop, l, want[:stop])
		}
	}
	at := 0
	for x := range s {
		if l := told(s, len(want)); !slices.Equal(l, want) || x != want[at] {
			t.Errorf("%s, within itself: %v at %d, %v, not %v", what, x, at, l, want)
		}
		at++
	}
}

// ends: numbers that a count may be, the ends of int among them.
func ends() []int {
	return append(counting(-2, 12), math.MinInt, math.MinInt+1, math.MaxInt-1, math.MaxInt)
}

func TestOf(t *testing.T) { // P3.1
	checkRow(t, "Of numbers", Of([]int{3, 1, 1, 2}), []int{3, 1, 1, 2})
	checkRow(t, "Of texts", Of([]string{"b", "", "a"}), []string{"b", "", "a"})
	checkRow(t, "Of one", Of([]bool{true}), []bool{true})
	checkRow(t, "Of an empty list", Of([]int{}), nil)
	checkRow(t, "Of nil", Of[string](nil), nil)
	l := counting(0, 5000)
	checkRow(t, "Of many", Take(Skip(Of(l), 4990), 20), l[4990:])
}

func TestRange(t *testing.T) { // P3.1
	for _, c := range []struct {
		from, to, by int
		want         []int
	}{
		{0, 10, 4, []int{0, 4, 8}},
		{3, 0, -2, []int{3, 1}},
		{0, 8, 4, []int{0, 4}},
		{0, 9, 4, []int{0, 4, 8}},
		{4, 0, -2, []int{4, 2}},
		{-3, 2, 2, []int{-3, -1, 1}},
		{2, -3, -2, []int{2, 0, -2}},
		{5, 6, 100, []int{5}},
		{5, 4, -100, []int{5}},
		{5, 5, 1, nil}, {5, 5, -1, nil}, {5, 5, 0, nil},
		{5, 4, 1, nil}, {4, 5, -1, nil},
		{0, 10, 0, nil}, {10, 0, 0, nil},
		{math.MinInt, math.MaxInt, 0, nil},
		{math.MaxInt, math.MinInt, 0, nil},
		{math.MaxInt - 7, math.MaxInt, 5, []int{math.MaxInt - 7, math.MaxInt - 2}},
		{math.MaxInt - 1, math.MaxInt, 1, []int{math.MaxInt - 1}},
		{math.MaxInt, math.MaxInt, 1, nil},
		{math.MaxInt - 2, math.MaxInt, math.MaxInt, []int{math.MaxInt - 2}},
		{math.MinInt + 7, math.MinInt, -5, []int{math.MinInt + 7, math.MinInt + 2}},
		{math.MinInt + 1, math.MinInt, -1, []int{math.MinInt + 1}},
		{math.MinInt, math.MinInt, -1, nil},
		{math.MinInt + 2, math.MinInt, math.MinInt, []int{math.MinInt + 2}},
		{math.MinInt, math.MaxInt, math.MaxInt, []int{math.MinInt, -1, math.MaxInt - 1}},
		{math.MaxInt, math.MinInt, -math.MaxInt, []int{math.MaxInt, 0, -math.MaxInt}},
		{math.MaxInt, math.MinInt, math.MinInt, []int{math.MaxInt, -1}},
		{0, math.MinInt, math.MinInt, []int{0}},
		{1, math.MinInt, math.MinInt, []int{1, math.MinInt + 1}},
	} {
		checkRow(t, fmt.Sprint("Range ", c.from, c.to, c.by), Range(c.from, c.to, c.by), c.want)
	}
}

// wantedRange: at most so many of the numbers, reckoned where nothing goes round.
func wantedRange(from, to, by, most int) []int {
	var l []int
	step, end := big.NewInt(int64(by)), big.NewInt(int64(to))
	for x := big.NewInt(int64(from)); len(l) < most && step.Sign() != 0 && x.Cmp(end) == -step.Sign(); x.Add(x, step) {
		l = append(l, int(x.Int64()))
	}
	return l
}

func TestRangeAtItsEnds(t *testing.T) { // P3.1, R5
	numbers := []int{math.MinInt, math.MinInt + 1, math.MinInt + 3, math.MinInt / 2, math.MaxInt / 2, math.MaxInt - 3, math.MaxInt - 1, math.MaxInt}
	numbers = append(numbers, counting(-4, 9)...)
	for _, from := range numbers {
		for _, to := range numbers {
			for _, by := range numbers {
				want := wantedRange(from, to, by, 12)
				if l := Collect(Range(from, to, by), 12); !slices.Equal(l, want) {
					t.Errorf("Range(%d, %d, %d): %v, not %v", from, to, by, l, want)
				}
			}
		}
	}
}

func TestTakeAndSkip(t *testing.T) { // P3.1, P3.4
	for length := range 7 {
		all := counting(100, length)
		for _, n := range ends() {
			cut := min(max(n, 0), length)
			what := fmt.Sprint(n, " of ", length)
			taken, skipped := Take(Of(all), n), Skip(Of(all), n)
			checkRow(t, "Take "+what, taken, all[:cut])
			checkRow(t, "Skip "+what, skipped, all[cut:])
			checkRow(t, "Take and Skip "+what, Concat(taken, skipped), all)
		}
	}
	checkRow(t, "Take of texts", Take(Of([]string{"a", "b", "c"}), 2), []string{"a", "b"})
	checkRow(t, "Skip of texts", Skip(Of([]string{"a", "b", "c"}), 2), []string{"c"})
}

func TestEvery(t *testing.T) { // P3.1
	checkRow(t, "Every second", Every(Of([]string{"a", "b", "c", "d", "e"}), 2), []string{"a", "c", "e"})
	for length := range 10 {
		all := counting(100, length)
		for _, n := range ends() {
			var want []int
			for i, x := range all {
				if n >= 1 && i%n == 0 {
					want = append(want, x)
				}
			}
			checkRow(t, fmt.Sprint("Every ", n, " of ", length), Every(Of(all), n), want)
		}
	}
}

func TestConcat(t *testing.T) { // P3.1
	checkRow(t, "Concat of none", Concat[int](), nil)
	checkRow(t, "Concat of a nil list", Concat([]iter.Seq[int](nil)...), nil)
	checkRow(t, "Concat of one", Concat(Of([]string{"b", "a"})), []string{"b", "a"})
	checkRow(t, "Concat of nil rows", Concat[int](nil, nil), nil)
	one := Of([]int{2, 1})
	checkRow(t, "Concat of one twice", Concat(one, one), []int{2, 1, 2, 1})
	checkRow(t, "Concat with rows of none", Concat(nil, one, Of[int](nil), nil, Range(7, 5, -1), Range(0, 0, 1)), []int{2, 1, 7, 6})
}

// wantedMerge: what P3.2 says, with both as lists, and how much of a must be asked for ahead of each number, and in all.
func wantedMerge(a, b []int) (want, asked []int) {
	whole := len(a)
	for len(a) > 0 || len(b) > 0 {
		asked = append(asked, whole-len(a)+1)
		next := math.MaxInt
		if len(a) > 0 {
			next = a[0]
		}
		if len(b) > 0 {
			next = min(next, b[0])
		}
		if len(a) > 0 && a[0] == next && len(b) > 0 && b[0] == next {
			a, b = a[1:], b[1:]
		} else if len(a) > 0 && a[0] == next {
			a = a[1:]
		} else {
			b = b[1:]
		}
		want = append(want, next)
	}
	return want, append(asked, whole+1)
}

// shortLists: all lists of up to n of the numbers from 0 to top.
func shortLists(n, top int) [][]int {
	lists := [][]int{nil}
	for from := 0; len(lists[from]) < n; from++ {
		for x := range top + 1 {
			lists = append(lists, append(slices.Clone(lists[from]), x))
		}
	}
	return lists
}

func TestMerge(t *testing.T) { // P3.2
	for _, c := range []struct{ a, b, want []int }{
		{[]int{1, 3, 5}, []int{0, 3, 9}, []int{0, 1, 3, 5, 9}},
		{[]int{1, 2}, []int{1, 2}, []int{1, 2}},
		{[]int{1, 2, 3, 4}, []int{2}, []int{1, 2, 3, 4}},
		{[]int{2}, []int{1, 2, 3, 4}, []int{1, 2, 3, 4}},
		{[]int{8, 9}, []int{1, 2, 3}, []int{1, 2, 3, 8, 9}},
		{[]int{1, 2, 3}, []int{8, 9}, []int{1, 2, 3, 8, 9}},
		{[]int{1, 2}, nil, []int{1, 2}},
		{nil, []int{1, 2}, []int{1, 2}},
		{nil, nil, nil},
		{[]int{3, 3}, []int{3}, []int{3, 3}},
		{[]int{3}, []int{3, 3}, []int{3, 3}},
		{[]int{3, 3}, []int{3, 3}, []int{3, 3}},
		{[]int{5, 1}, []int{4, 2}, []int{4, 2, 5, 1}},
		{[]int{5, 1, 7}, []int{6, 0}, []int{5, 1, 6, 0, 7}},
		{[]int{math.MinInt, math.MaxInt}, []int{math.MinInt, 0, math.MaxInt}, []int{math.MinInt, 0, math.MaxInt}},
		{[]int{math.MaxInt}, []int{math.MinInt}, []int{math.MinInt, math.MaxInt}},
		{[]int{math.MinInt}, []int{math.MaxInt}, []int{math.MinInt, math.MaxInt}},
	} {
		checkRow(t, fmt.Sprint("Merge ", c.a, c.b), Merge(Of(c.a), c.b), c.want)
	}
	checkRow(t, "Merge of a nil row", Merge(nil, []int{2, 1}), []int{2, 1})
	checkRow(t, "Merge of nil and nil", Merge(nil, nil), nil)
	for _, a := range shortLists(3, 2) {
		for _, b := range shortLists(3, 2) {
			want, _ := wantedMerge(a, b)
			checkRow(t, fmt.Sprint("Merge ", a, b), Merge(Of(a), b), want)
		}
	}
}

func TestMergeOfRisingOnes(t *testing.T) { // P3.2, P3.4
	source := rand.New(rand.NewSource(5))
	for range 300 {
		a, b := rising(source), rising(source)
		both := slices.Concat(a, b)
		slices.Sort(both)
		both = slices.Compact(both)
		checkRow(t, fmt.Sprint("Merge ", a, b), Merge(Of(a), b), both)
		checkRow(t, fmt.Sprint("Merge ", b, a), Merge(Of(b), a), both)
	}
}

// rising: some numbers, each greater than the one ahead.
func rising(source *rand.Rand) []int {
	l := make([]int, source.Intn(9))
	for i := range l {
		l[i] = source.Intn(25) - 12
	}
	slices.Sort(l)
	return slices.Compact(l)
}

func TestCollectAndLen(t *testing.T) { // P3.3
	for length := range 7 {
		for _, most := range ends() {
			p := &probe{things: counting(100, length)}
			want := p.things[:min(max(most, 0), length)]
			asked := min(max(most, 0), length+1)
			if l := Collect(p.row(), most); !slices.Equal(l, want) || p.asked != asked {
				t.Errorf("Collect of %d, %d: %v, %d asked for", length, most, l, p.asked)
			}
			p.asked = 0
			if n := Len(p.row(), most); n != len(want) || p.asked != asked {
				t.Errorf("Len of %d, %d: %d, %d asked for", length, most, n, p.asked)
			}
			if Collect[string](nil, most) != nil || Len[string](nil, most) != 0 {
				t.Errorf("Collect or Len of nil, %d", most)
			}
		}
	}
	asked := 0
	if l := Collect(endless(5, &asked), 3); !slices.Equal(l, []int{5, 6, 7}) || asked != 3 {
		t.Errorf("Collect of an endless one: %v, %d asked for", l, asked)
	}
	asked = 0
	if n := Len(endless(5, &asked), 1000); n != 1000 || asked != 1000 {
		t.Errorf("Len of an endless one: %d, %d asked for", n, asked)
	}
	if l := Collect(Of([]string{"a", "", "b"}), 9); !slices.Equal(l, []string{"a", "", "b"}) {
		t.Errorf("Collect of texts: %q", l)
	}
}

func TestNilRows(t *testing.T) { // P3.1, R1
	for _, n := range ends() {
		checkRow(t, fmt.Sprint("Take of nil, ", n), Take[int](nil, n), nil)
		checkRow(t, fmt.Sprint("Skip of nil, ", n), Skip[int](nil, n), nil)
		checkRow(t, fmt.Sprint("Every of nil, ", n), Every[int](nil, n), nil)
	}
}

// checkLazy: nothing is asked for till the row is, then what each thing needs, at last what the end needs.
func checkLazy(t *testing.T, what string, things []int, over func(iter.Seq[int]) iter.Seq[int], needs []int) {
	t.Helper()
	p := &probe{things: things}
	s := over(p.row())
	if p.asked != 0 {
		t.Errorf("%s: %d asked for by the call", what, p.asked)
	}
	for stop := range needs {
		p.asked = 0
		at := 0
		for range s {
			if at >= len(needs)-1 || p.asked != needs[at] {
				t.Errorf("%s: %d asked for at %d, needed are %v", what, p.asked, at, needs)
				return
			}
			if at == stop {
				break
			}
			at++
		}
		if p.asked != needs[stop] {
			t.Errorf("%s, left at %d: %d asked for, needed are %v", what, stop, p.asked, needs)
		}
	}
}

func TestLazyRows(t *testing.T) { // Words: lazy
	all := counting(0, 8)
	for _, c := range []struct {
		what  string
		over  func(iter.Seq[int]) iter.Seq[int]
		needs []int
	}{
		{"Take 3", func(s iter.Seq[int]) iter.Seq[int] { return Take(s, 3) }, []int{1, 2, 3, 3}},
		{"Take 1", func(s iter.Seq[int]) iter.Seq[int] { return Take(s, 1) }, []int{1, 1}},
		{"Take 0", func(s iter.Seq[int]) iter.Seq[int] { return Take(s, 0) }, []int{0}},
		{"Take -1", func(s iter.Seq[int]) iter.Seq[int] { return Take(s, -1) }, []int{0}},
		{"Take 8", func(s iter.Seq[int]) iter.Seq[int] { return Take(s, 8) }, []int{1, 2, 3, 4, 5, 6, 7, 8, 8}},
		{"Take 9", func(s iter.Seq[int]) iter.Seq[int] { return Take(s, 9) }, []int{1, 2, 3, 4, 5, 6, 7, 8, 9}},
		{"Skip 5", func(s iter.Seq[int]) iter.Seq[int] { return Skip(s, 5) }, []int{6, 7, 8, 9}},
		{"Skip 0", func(s iter.Seq[int]) iter.Seq[int] { return Skip(s, 0) }, []int{1, 2, 3, 4, 5, 6, 7, 8, 9}},
		{"Skip 20", func(s iter.Seq[int]) iter.Seq[int] { return Skip(s, 20) }, []int{9}},
		{"Every 3", func(s iter.Seq[int]) iter.Seq[int] { return Every(s, 3) }, []int{1, 4, 7, 9}},
		{"Every 1", func(s iter.Seq[int]) iter.Seq[int] { return Every(s, 1) }, []int{1, 2, 3, 4, 5, 6, 7, 8, 9}},
		{"Every 0", func(s iter.Seq[int]) iter.Seq[int] { return Every(s, 0) }, []int{0}},
		{"Every -3", func(s iter.Seq[int]) iter.Seq[int] { return Every(s, -3) }, []int{0}},
		{"Concat of one", func(s iter.Seq[int]) iter.Seq[int] { return Concat(s) }, []int{1, 2, 3, 4, 5, 6, 7, 8, 9}},
		{"Concat behind two", func(s iter.Seq[int]) iter.Seq[int] { return Concat(Range(0, 2, 1), nil, Take(s, 2), Of(all[:1])) }, []int{0, 0, 1, 2, 2, 2}},
		{"one within the other", func(s iter.Seq[int]) iter.Seq[int] { return Take(Every(Skip(s, 1), 2), 2) }, []int{2, 4, 4}},
	} {
		checkLazy(t, c.what, all, c.over, c.needs)
	}
}

func TestLazyMerge(t *testing.T) { // Words: lazy; P3.2
	for _, a := range shortLists(3, 2) {
		for _, b := range shortLists(3, 2) {
			_, needs := wantedMerge(a, b)
			checkLazy(t, fmt.Sprint("Merge ", a, b), a, func(s iter.Seq[int]) iter.Seq[int] { return Merge(s, b) }, needs)
		}
	}
}

func TestEndlessRows(t *testing.T) { // R1, Words: lazy
	asked := 0
	row := endless(0, &asked)
	for what, c := range map[string]struct {
		s     iter.Seq[int]
		want  []int
		asked int
	}{
		"Take":   {Take(row, math.MaxInt), []int{0, 1, 2}, 3},
		"Skip":   {Skip(row, 10), []int{10, 11, 12}, 13},
		"Every":  {Every(row, 10), []int{0, 10, 20}, 21},
		"Concat": {Concat(row, row), []int{0, 1, 2}, 3},
		"Merge":  {Merge(row, []int{-1, 0, 5}), []int{-1, 0, 1}, 2},
		"Range":  {Range(0, math.MaxInt, 1), []int{0, 1, 2}, 0},
	} {
		asked = 0
		if l := Collect(c.s, 3); !slices.Equal(l, c.want) || asked != c.asked {
			t.Errorf("%s: %v, %d asked for", what, l, asked)
		}
	}
}

func TestAsOftenAsThoseItIsMadeOf(t *testing.T) { // Words: gone through again
	left := 4
	once := func(yield func(int) bool) {
		for left > 0 {
			left--
			if !yield(left) {
				return
			}
		}
	}
	s := Merge(Skip(Take(once, 9), 1), []int{7})
	first, second := Collect(s, 2), Collect(s, 9)
	if !slices.Equal(first, []int{2, 1}) || !slices.Equal(second, []int{7}) {
		t.Errorf("a row that may be gone through once: %v, %v", first, second)
	}
}

func TestStubbornRows(t *testing.T) { // R1
	stubborn := func(yield func(int) bool) {
		for x := range 10 {
			yield(x)
		}
	}
	checkRow(t, "Take", Take(stubborn, 3), []int{0, 1, 2})
	checkRow(t, "Skip", Skip(stubborn, 7), []int{7, 8, 9})
	checkRow(t, "Every", Every(stubborn, 4), []int{0, 4, 8})
	checkRow(t, "Concat", Concat(Take(stubborn, 2), Skip(stubborn, 9)), []int{0, 1, 9})
	checkRow(t, "Merge", Take(Merge(stubborn, []int{-1, 2}), 5), []int{-1, 0, 1, 2, 3})
	if l := Collect(stubborn, 2); !slices.Equal(l, []int{0, 1}) || Len(stubborn, 2) != 2 {
		t.Errorf("Collect, Len: %v, %d", l, Len(stubborn, 2))
	}
	var kept func(int) bool
	keeper := func(yield func(int) bool) {
		if kept != nil {
			kept(-1)
		}
		kept = yield
		yield(1)
	}
	for range 3 {
		if l := Collect(keeper, 5); !slices.Equal(l, []int{1}) {
			t.Errorf("Collect of one that asks an earlier caller: %v", l)
		}
	}
}

func TestListsAsTheyWere(t *testing.T) { // P3.1, P3.2, R4
	list, numbers := []string{"a", "b"}, []int{2, 4}
	rows := []iter.Seq[int]{Of([]int{1}), Of([]int{3})}
	of, merge, concat := Of(list), Merge(Of([]int{3}), numbers), Concat(rows...)
	check := func(when string) {
		checkRow(t, "Of "+when, of, []string{"a", "b"})
		checkRow(t, "Merge "+when, merge, []int{2, 3, 4})
		checkRow(t, "Concat "+when, concat, []int{1, 3})
	}
	check("at first")
	list[1], numbers[0], rows[0], rows[1] = "x", 9, nil, Of([]int{7, 7})
	check("behind a change")
	for range of {
		list[0], list[1] = "y", "y"
	}
	for range merge {
		numbers[0], numbers[1] = -5, -5
	}
	for range concat {
		rows[0], rows[1] = nil, nil
	}
	check("behind a change on the way")
}

func TestOwnMemory(t *testing.T) { // R4
	spare := []int{1, 2, 3, 70, 71, 72, 73, 74}
	list := spare[:3]
	row := Of(list)
	rows := []iter.Seq[int]{row, row, nil}
	calls := func() [][]int {
		return [][]int{
			Collect(row, 9), Collect(row, 2), Collect(Take(row, 2), 9), Collect(Skip(row, 1), 9), Collect(Every(row, 2), 9),
			Collect(Concat(rows[:2]...), 9), Collect(Merge(row, list), 9), Collect(Merge(nil, list), 9),
		}
	}
	first := calls()
	second := calls()
	for _, l := range first {
		l = l[:cap(l)]
		for i := range l {
			l[i] = -7
		}
	}
	third := calls()
	for i, l := range third {
		if !slices.Equal(l, second[i]) || slices.Contains(l[:cap(l)], -7) {
			t.Errorf("the call %d tells %v, then %v", i, second[i], l)
		}
	}
	if !slices.Equal(spare, []int{1, 2, 3, 70, 71, 72, 73, 74}) {
		t.Errorf("the list is %v now", spare)
	}
	if rows[0] == nil || rows[1] == nil || rows[2] != nil {
		t.Error("the list of rows is another one now")
	}
}

func TestTakenAndSkippedAreAll(t *testing.T) { // P3.4: of made rows, too
	for _, s := range []iter.Seq[int]{
		nil, Range(0, 20, 3), Every(Range(20, 0, -1), 4), Merge(Range(0, 9, 2), []int{1, 2, 30}), Concat(Range(0, 3, 1), Range(0, 3, 1)),
	} {
		all := Collect(s, 100)
		for _, n := range ends() {
			taken, skipped := Collect(Take(s, n), 100), Collect(Skip(s, n), 100)
			if !slices.Equal(slices.Concat(taken, skipped), all) || Len(Take(s, n), 100) != len(taken) {
				t.Errorf("%v: %d taken: %v, skipped: %v", all, n, taken, skipped)
			}
		}
	}
}
