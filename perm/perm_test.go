package perm

import (
	"fmt"
	"math"
	"math/big"
	"math/rand"
	"slices"
	"testing"

	"ramage/api"
)

// all: every permutation of n, in order, grown number by number from those that have fewer.
func all(n int) [][]int {
	lists := [][]int{{}}
	for range n {
		var longer [][]int
		for _, l := range lists {
			for number := range n {
				if !slices.Contains(l, number) {
					longer = append(longer, append(slices.Clone(l), number))
				}
			}
		}
		lists = longer
	}
	return lists
}

// counting: from, from+by, .., of n numbers.
func counting(n, from, by int) []int {
	l := make([]int, n)
	for i := range l {
		l[i] = from + i*by
	}
	return l
}

// wrong: lists that are no permutation.
func wrong() [][]int {
	lists := [][]int{
		{1}, {-1}, {2}, {math.MaxInt}, {math.MinInt},
		{0, 0}, {1, 1}, {0, 2}, {2, 0}, {1, 2}, {-1, 0}, {0, -1}, {math.MinInt, 1},
		{0, 1, 1}, {0, 1, 3}, {1, 2, 3}, {-1, 0, 1}, {2, 1, 2}, {0, 1, math.MaxInt},
		counting(16, 1, 1), counting(16, -1, 1), counting(17, 0, 1), counting(17, 16, -1),
		make([]int, 16), make([]int, 17), make([]int, 1000), counting(1000, 0, 1),
	}
	double := counting(16, 0, 1)
	double[15] = 0
	return append(lists, double)
}

// samples: all of the small ones, and some of each greater n.
func samples() [][]int {
	lists := [][]int{nil}
	for n := range 5 {
		lists = append(lists, all(n)...)
	}
	source := rand.New(rand.NewSource(2))
	for n := 5; n <= api.MaxVars; n++ {
		lists = append(lists, counting(n, 0, 1), counting(n, n-1, -1))
		for range 6 {
			lists = append(lists, source.Perm(n))
		}
	}
	return lists
}

// outOfOrder: how many pairs p has that stand otherwise than in the list q.
func outOfOrder(p, q []int) int {
	count := 0
	for a := range len(p) {
		for b := range a {
			if (slices.Index(p, a) < slices.Index(p, b)) != (slices.Index(q, a) < slices.Index(q, b)) {
				count++
			}
		}
	}
	return count
}

func factorialBig(n int) int {
	return int(new(big.Int).MulRange(1, int64(n)).Int64())
}

// nothing fails unless there is a false, and no list beside it.
func nothing(t *testing.T, what string, l []int, ok bool) {
	t.Helper()
	if ok || len(l) != 0 {
		t.Errorf("%s: %v, %v, not nothing and false", what, l, ok)
	}
}

func told(t *testing.T, what string, l []int, ok bool, want []int) {
	t.Helper()
	if !ok || !slices.Equal(l, want) {
		t.Errorf("%s: %v, %v, not %v", what, l, ok, want)
	}
}

func TestRight(t *testing.T) { // P2.1
	for n := range 5 {
		permutations := all(n)
		var lists [][]int
		for code := range int(math.Pow(float64(n+2), float64(n))) {
			l := make([]int, n)
			for i := range l {
				l[i] = code%(n+2) - 1
				code /= n + 2
			}
			lists = append(lists, l)
		}
		for _, l := range lists {
			want := slices.ContainsFunc(permutations, func(p []int) bool { return slices.Equal(p, l) })
			if Right(l) != want {
				t.Errorf("Right(%v): %v", l, !want)
			}
		}
	}
	for _, p := range samples() {
		if !Right(p) {
			t.Errorf("Right(%v): false", p)
		}
	}
	for _, p := range wrong() {
		if Right(p) {
			t.Errorf("Right(%v): true", p)
		}
	}
}

func TestSame(t *testing.T) { // P2.1
	for n := range api.MaxVars + 1 {
		p, ok := Same(n)
		told(t, fmt.Sprint("Same ", n), p, ok, counting(n, 0, 1))
	}
	for _, n := range []int{-1, -16, 17, 18, 1 << 40, math.MaxInt, math.MinInt} {
		p, ok := Same(n)
		nothing(t, fmt.Sprint("Same ", n), p, ok)
	}
}

func TestInverse(t *testing.T) { // P2.1
	p, ok := Inverse([]int{3, 0, 1, 2})
	told(t, "Inverse", p, ok, []int{1, 2, 3, 0})
	for _, p := range samples() {
		back, ok := Inverse(p)
		if !ok || len(back) != len(p) {
			t.Fatalf("Inverse(%v): %v, %v", p, back, ok)
		}
		for i := range p {
			if back[p[i]] != i {
				t.Errorf("Inverse(%v): %v", p, back)
			}
		}
	}
	for _, p := range wrong() {
		back, ok := Inverse(p)
		nothing(t, fmt.Sprint("Inverse ", p), back, ok)
	}
}

func TestThen(t *testing.T) { // P2.1
	p, ok := Then([]int{1, 2, 3, 0}, []int{0, 1, 3, 2})
	told(t, "Then", p, ok, []int{1, 3, 2, 0})
	for _, p := range samples() {
		for _, q := range samples() {
			both, ok := Then(p, q)
			if len(p) != len(q) {
				nothing(t, fmt.Sprint("Then ", p, q), both, ok)
				continue
			}
			if !ok || len(both) != len(p) {
				t.Fatalf("Then(%v, %v): %v, %v", p, q, both, ok)
			}
			for i := range p {
				if both[i] != q[p[i]] {
					t.Errorf("Then(%v, %v): %v", p, q, both)
				}
			}
		}
	}
	wrongPairs(t, "Then", Then)
}

// wrongPairs: of two, one of which is none, there is nothing.
func wrongPairs(t *testing.T, what string, call func(p, q []int) ([]int, bool)) {
	t.Helper()
	for _, p := range wrong() {
		for _, q := range [][]int{nil, p, counting(len(p), 0, 1), counting(16, 0, 1)} {
			l, ok := call(p, q)
			nothing(t, fmt.Sprint(what, p, q), l, ok)
			l, ok = call(q, p)
			nothing(t, fmt.Sprint(what, q, p), l, ok)
		}
	}
	for _, pair := range [][2]int{{0, 1}, {15, 16}, {16, 17}, {2, 3}} {
		p, q := counting(pair[0], 0, 1), counting(pair[1], 0, 1)
		l, ok := call(p, q)
		nothing(t, fmt.Sprint(what, p, q), l, ok)
		l, ok = call(q, p)
		nothing(t, fmt.Sprint(what, q, p), l, ok)
	}
}

func TestStep(t *testing.T) { // P2.1
	p, ok := Step([]int{2, 0, 1}, 0)
	told(t, "Step at 0", p, ok, []int{0, 2, 1})
	p, ok = Step([]int{2, 0, 1}, 1)
	told(t, "Step at n - 2", p, ok, []int{2, 1, 0})
	for _, p := range samples() {
		for i := -2; i <= len(p)+1; i++ {
			stepped, ok := Step(p, i)
			if i < 0 || i > len(p)-2 {
				nothing(t, fmt.Sprint("Step ", p, i), stepped, ok)
				continue
			}
			want := slices.Concat(p[:i], []int{p[i+1], p[i]}, p[i+2:])
			told(t, fmt.Sprint("Step ", p, i), stepped, ok, want)
		}
		for _, i := range []int{math.MinInt, math.MinInt + 1, math.MaxInt - 1, math.MaxInt} {
			stepped, ok := Step(p, i)
			nothing(t, fmt.Sprint("Step ", p, i), stepped, ok)
		}
	}
	for _, p := range wrong() {
		for _, i := range []int{-1, 0, len(p) - 2, math.MaxInt} {
			stepped, ok := Step(p, i)
			nothing(t, fmt.Sprint("Step ", p, i), stepped, ok)
		}
	}
}

func TestSteps(t *testing.T) { // P2.2, P2.4
	for _, c := range []struct{ p, q, want []int }{
		{[]int{0, 1, 2}, []int{2, 0, 1}, []int{1, 0}},
		{[]int{2, 0, 1}, []int{0, 1, 2}, []int{0, 1}},
		{[]int{0, 1, 2, 3}, []int{3, 2, 1, 0}, []int{2, 1, 0, 2, 1, 2}},
		{[]int{3, 1, 0, 2}, []int{1, 2, 3, 0}, []int{0, 2, 1}},
		{[]int{1, 0}, []int{1, 0}, nil},
		{nil, nil, nil},
		{[]int{0}, []int{0}, nil},
	} {
		steps, ok := Steps(c.p, c.q)
		told(t, fmt.Sprint("Steps ", c.p, c.q), steps, ok, c.want)
	}
	for _, p := range samples() {
		for _, q := range samples() {
			if len(p) == len(q) {
				checkSteps(t, p, q)
			}
		}
	}
	wrongPairs(t, "Steps", Steps)
}

// wantedSteps: those of each place, told by how many numbers stand ahead of its own in p, but not in q.
func wantedSteps(p, q []int) []int {
	var steps []int
	for place, number := range q {
		ahead := 0
		for _, other := range p[:slices.Index(p, number)] {
			if !slices.Contains(q[:place], other) {
				ahead++
			}
		}
		steps = append(steps, counting(ahead, place+ahead-1, -1)...)
	}
	return steps
}

// checkSteps: they are as they must, lead from p to q, and are as many as the pairs that stand otherwise.
func checkSteps(t *testing.T, p, q []int) {
	t.Helper()
	steps, ok := Steps(p, q)
	told(t, fmt.Sprint("Steps ", p, q), steps, ok, wantedSteps(p, q))
	if len(steps) != outOfOrder(p, q) {
		t.Errorf("Steps(%v, %v): %v", p, q, steps)
	}
	now := p
	for _, i := range steps {
		now, _ = Step(now, i)
	}
	if !slices.Equal(now, q) {
		t.Errorf("Steps(%v, %v): %v lead to %v", p, q, steps, now)
	}
}

func TestStepsAreFewest(t *testing.T) { // P2.2: held against the nearest way among all
	for n := range 6 {
		for _, p := range all(n)[:min(n+1, factorialBig(n))] {
			far := distances(p)
			for _, q := range all(n) {
				steps, ok := Steps(p, q)
				if !ok || len(steps) != far[fmt.Sprint(q)] {
					t.Errorf("Steps(%v, %v): %v, %v, not %d", p, q, steps, ok, far[fmt.Sprint(q)])
				}
			}
		}
	}
}

// distances: how many steps it takes at least from p to each other.
func distances(p []int) map[string]int {
	far := map[string]int{fmt.Sprint(p): 0}
	for todo := [][]int{p}; len(todo) > 0; todo = todo[1:] {
		for i := range len(p) - 1 {
			next := slices.Clone(todo[0])
			next[i], next[i+1] = next[i+1], next[i]
			if _, known := far[fmt.Sprint(next)]; !known {
				far[fmt.Sprint(next)] = far[fmt.Sprint(todo[0])] + 1
				todo = append(todo, next)
			}
		}
	}
	return far
}

func TestOdd(t *testing.T) { // P2.2
	for _, p := range samples() {
		want := outOfOrder(p, counting(len(p), 0, 1))%2 == 1
		if Odd(p) != want {
			t.Errorf("Odd(%v): %v", p, !want)
		}
	}
	if Odd(nil) || Odd([]int{0}) || !Odd([]int{1, 0}) || !Odd([]int{2, 1, 0}) || Odd([]int{2, 0, 1}) {
		t.Error("Odd")
	}
	for _, p := range append(wrong(), []int{3, 1}, []int{1, 0, 0, 0}) {
		if Odd(p) {
			t.Errorf("Odd(%v): true", p)
		}
	}
}

func TestRanks(t *testing.T) { // P2.3
	for n := range 8 {
		for rank, p := range all(n) {
			if got, ok := Rank(p); !ok || got != rank {
				t.Errorf("Rank(%v): %d, %v, not %d", p, got, ok, rank)
			}
			of, ok := Of(n, rank)
			told(t, fmt.Sprint("Of ", n, rank), of, ok, p)
		}
	}
	for n := range api.MaxVars + 1 {
		count := factorialBig(n)
		first, ok := Of(n, 0)
		told(t, fmt.Sprint("Of ", n, 0), first, ok, counting(n, 0, 1))
		last, ok := Of(n, count-1)
		told(t, fmt.Sprint("Of ", n, count-1), last, ok, counting(n, n-1, -1))
		if rank, ok := Rank(last); !ok || rank != count-1 {
			t.Errorf("Rank(%v): %d, %v", last, rank, ok)
		}
		for _, rank := range []int{-1, -count, math.MinInt, count, count + 1, 2 * count, math.MaxInt} {
			p, ok := Of(n, rank)
			nothing(t, fmt.Sprint("Of ", n, rank), p, ok)
		}
	}
}

func TestWrongRanks(t *testing.T) { // P2.3
	for _, n := range []int{-1, -2, math.MinInt, 17, 18, 20, 21, 1 << 40, math.MaxInt} {
		for _, rank := range []int{math.MinInt, -1, 0, 1, 5, math.MaxInt} {
			p, ok := Of(n, rank)
			nothing(t, fmt.Sprint("Of ", n, rank), p, ok)
		}
	}
	for _, p := range wrong() {
		if rank, ok := Rank(p); ok || rank != 0 {
			t.Errorf("Rank(%v): %d, %v", p, rank, ok)
		}
	}
}

func TestRankOrder(t *testing.T) { // P2.3: ranks stand as the lists do, of a great n, too
	source := rand.New(rand.NewSource(3))
	for n := range api.MaxVars + 1 {
		for range 50 {
			p, q := source.Perm(n), source.Perm(n)
			x, _ := Rank(p)
			y, _ := Rank(q)
			if slices.Compare(p, q) < 0 != (x < y) || slices.Equal(p, q) != (x == y) {
				t.Errorf("Rank: %v has %d, %v has %d", p, x, q, y)
			}
		}
	}
}

func TestThereAndBack(t *testing.T) { // P2.4
	source := rand.New(rand.NewSource(4))
	for _, p := range samples() {
		same, _ := Same(len(p))
		back, _ := Inverse(p)
		again, ok := Inverse(back)
		told(t, "Inverse of Inverse", again, ok, p)
		l, ok := Then(p, back)
		told(t, "Then Inverse", l, ok, same)
		l, ok = Then(back, p)
		told(t, "Inverse, Then", l, ok, same)
		rank, _ := Rank(p)
		l, ok = Of(len(p), rank)
		told(t, "Of Rank", l, ok, p)
		steps, _ := Steps(same, p)
		if Odd(p) != (len(steps)%2 == 1) {
			t.Errorf("Odd(%v), and %d steps", p, len(steps))
		}
		home, _ := Steps(p, same)
		now := same
		for _, i := range append(steps, home...) {
			now, _ = Step(now, i)
		}
		if len(home) != len(steps) || !slices.Equal(now, same) {
			t.Errorf("%v: %d steps there, %d back, to %v", p, len(steps), len(home), now)
		}
	}
	for n := range api.MaxVars + 1 {
		for range 50 {
			rank := source.Intn(factorialBig(n))
			p, _ := Of(n, rank)
			if got, ok := Rank(p); !ok || got != rank {
				t.Errorf("Rank of Of(%d, %d): %d, %v", n, rank, got, ok)
			}
		}
	}
}

// roomy: p, with room behind it that an answer could run over.
func roomy(p []int) []int {
	return append(make([]int, 0, len(p)+8), p...)
}

func TestOwnMemory(t *testing.T) { // R4
	for _, p := range samples() {
		q := counting(len(p), len(p)-1, -1)
		a, b := roomy(p), roomy(q)
		spareA, spareB := a[:cap(a)], b[:cap(b)]
		calls := func() [][]int {
			inverse, _ := Inverse(a)
			then, _ := Then(a, b)
			step, _ := Step(a, 0)
			steps, _ := Steps(a, b)
			same, _ := Same(len(a))
			of, _ := Of(len(a), 0)
			return [][]int{inverse, then, step, steps, same, of}
		}
		first := calls()
		Right(a)
		Rank(a)
		Odd(a)
		second := calls()
		for i, l := range first {
			if !slices.Equal(l, second[i]) {
				t.Errorf("%v: the call %d tells %v, then %v", p, i, l, second[i])
			}
			l = l[:cap(l)]
			for k := range l {
				l[k] = -7
			}
		}
		if !slices.Equal(a, p) || !slices.Equal(b, q) || slices.Contains(spareA, -7) || slices.Contains(spareB, -7) {
			t.Errorf("%v, %v: are %v, %v now", p, q, spareA, spareB)
		}
		for i := range spareA {
			spareA[i] = -9
		}
		for i, l := range second {
			if slices.Contains(l[:cap(l)], -7) || slices.Contains(l[:cap(l)], -9) {
				t.Errorf("%v: the call %d tells what isn't the caller's", p, i)
			}
		}
	}
}
