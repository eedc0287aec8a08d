package order

import (
	"fmt"
	"math"
	"math/rand"
	"slices"
	"testing"

	"ramage/api"
	"ramage/perm"
)

// all: every list of n variables by levels.
func all(n int) [][]int {
	var lists [][]int
	for rank := 0; ; rank++ {
		p, ok := perm.Of(n, rank)
		if !ok {
			return lists
		}
		lists = append(lists, p)
	}
}

// counting: from, from+by, .., of n numbers.
func counting(n, from, by int) []int {
	l := make([]int, n)
	for i := range l {
		l[i] = from + i*by
	}
	return l
}

// drawn: of each n from 6 on, that in order, its reverse, and some that are drawn.
func drawn() [][]int {
	source := rand.New(rand.NewSource(9))
	var lists [][]int
	for n := 6; n <= api.MaxVars; n++ {
		lists = append(lists, counting(n, 0, 1), counting(n, n-1, -1))
		for range 4 {
			lists = append(lists, source.Perm(n))
		}
	}
	return lists
}

// samples: every one of up to 5 variables, and drawn ones of more.
func samples() [][]int {
	var lists [][]int
	for n := range 6 {
		lists = append(lists, all(n)...)
	}
	return append(lists, drawn()...)
}

// wrong: lists that are no permutation.
func wrong() [][]int {
	twice := counting(16, 0, 1)
	twice[15] = 0
	jump := counting(16, 0, 1)
	jump[7] = 16
	return [][]int{
		{1}, {-1}, {2}, {16}, {math.MaxInt}, {math.MinInt}, {1 << 32},
		{0, 0}, {1, 1}, {0, 2}, {2, 0}, {1, 2}, {-1, 0}, {0, -1}, {math.MinInt, 1}, {1 << 32, 1},
		{0, 1, 1}, {0, 1, 3}, {1, 2, 3}, {-1, 0, 1}, {2, 1, 2}, {0, 1, math.MaxInt},
		counting(16, 1, 1), counting(16, -1, 1), counting(17, 0, 1), counting(17, 16, -1), counting(18, 0, 1),
		make([]int, 16), make([]int, 17), make([]int, 1000), counting(1000, 0, 1), counting(1<<16, 0, 1),
		twice, jump,
	}
}

// outside: numbers that are no level and no variable of n, those just outside first.
func outside(n int) []int {
	return []int{-1, n, -2, n + 1, -16, 17, 64, 1 << 32, -1 << 32, 1<<32 + 1, math.MaxInt - 1, math.MaxInt, math.MinInt, math.MinInt + 1}
}

// noAssignments: numbers that are no assignment of n variables, those just outside first.
func noAssignments(n int) []int {
	return []int{-1, 1 << n, -2, 1<<n + 1, 2 << n, -1 << n, -1<<n - 1, 1 << 17, 1 << 32, 1<<32 + 1, math.MaxInt - 1, math.MaxInt, math.MinInt, math.MinInt + 1}
}

// wantedDown: the assignment x by levels, bit by bit from the lowest level up.
func wantedDown(p []int, x int) int {
	down, worth := 0, 1
	for _, v := range slices.Backward(p) {
		if x&(1<<v) != 0 {
			down += worth
		}
		worth *= 2
	}
	return down
}

// wantedLevels: those at which one of the variables stands.
func wantedLevels(p []int, vars uint16) uint16 {
	levels := uint16(0)
	for level, v := range p {
		if vars&(1<<v) != 0 {
			levels += 1 << level
		}
	}
	return levels
}

// made: an order by Of, which must be.
func made(t *testing.T, p []int) *Order {
	t.Helper()
	o, e := Of(p)
	if o == nil || e != api.OK {
		t.Fatalf("Of(%v): %v, %v", p, o, e)
	}
	return o
}

// check: an order that has these variables by levels, both ways, and is the same as another one that has them.
func check(t *testing.T, what string, o *Order, p []int) {
	t.Helper()
	n := len(p)
	if o.Vars() != n || !slices.Equal(o.Perm(), p) {
		t.Fatalf("%s: %d variables, %v; not %v", what, o.Vars(), o.Perm(), p)
	}
	for level, v := range p {
		if o.Var(level) != v || o.Level(v) != level {
			t.Errorf("%s: Var(%d): %d, Level(%d): %d; not %v", what, level, o.Var(level), v, o.Level(v), p)
		}
	}
	for _, i := range outside(n) {
		if o.Var(i) != -1 || o.Level(i) != -1 {
			t.Errorf("%s: Var(%d): %d, Level(%d): %d; of %d variables", what, i, o.Var(i), i, o.Level(i), n)
		}
	}
	if another := made(t, p); !o.Same(another) || !another.Same(o) || !o.Same(o) {
		t.Errorf("%s: isn't the same as that of %v", what, p)
	}
	if o.Levels(math.MaxUint16) != 1<<n-1 || o.Levels(0) != 0 {
		t.Errorf("%s: Levels of all: %b, of none: %b", what, o.Levels(math.MaxUint16), o.Levels(0))
	}
	for level, v := range p {
		if x := 1 << v; o.Down(x) != 1<<(n-1-level) || o.Up(1<<(n-1-level)) != x || o.Levels(uint16(x)) != 1<<level {
			t.Errorf("%s: variable %d at level %d: Down %b, Levels %b", what, v, level, o.Down(x), o.Levels(uint16(x)))
		}
	}
}

func TestNew(t *testing.T) { // P9.1: each number of variables that can be
	for n := range api.MaxVars + 1 {
		o, e := New(n)
		if o == nil || e != api.OK {
			t.Fatalf("New(%d): %v, %v", n, o, e)
		}
		check(t, fmt.Sprint("New ", n), o, counting(n, 0, 1))
		another, _ := New(n)
		if n > 1 && (another.Swap(0) != api.OK || o.Same(another)) {
			t.Errorf("New(%d): two of them are one", n)
		}
	}
}

func TestNewOfWrong(t *testing.T) { // P9.1: Var, and no order
	for _, n := range []int{-1, 17, -2, -16, 18, 32, 64, 1 << 32, 1<<32 + 3, -1 << 32, math.MaxInt, math.MinInt, math.MinInt + 3} {
		if o, e := New(n); o != nil || e != api.Var {
			t.Errorf("New(%d): %v, %v", n, o, e)
		}
	}
}

func TestOf(t *testing.T) { // P9.1: every order of up to 5 variables, drawn ones of more
	lists := samples()
	if len(lists) != 1+1+2+6+24+120+11*6 {
		t.Errorf("%d orders", len(lists))
	}
	for _, p := range lists {
		check(t, fmt.Sprint("Of ", p), made(t, p), p)
	}
	o := made(t, []int{2, 0, 3, 1})
	if o.Vars() != 4 || o.Var(0) != 2 || o.Var(3) != 1 || o.Level(0) != 1 || o.Level(1) != 3 || o.Level(2) != 0 || o.Level(3) != 2 {
		t.Errorf("Of 2, 0, 3, 1: %v", o.Perm())
	}
}

func TestOfNone(t *testing.T) { // P9.1, R3: no variables are a permutation, in a list that is nil or empty
	without, _ := New(0)
	for _, p := range [][]int{nil, {}, make([]int, 0, 5)} {
		o := made(t, p)
		check(t, "Of no variables", o, nil)
		if !o.Same(without) || !without.Same(o) || len(o.Perm()) != 0 {
			t.Errorf("Of no variables: %v", o.Perm())
		}
	}
}

func TestOfWrong(t *testing.T) { // P9.1: Arg, and no order
	for _, p := range wrong() {
		if o, e := Of(p); o != nil || e != api.Arg {
			t.Errorf("Of(%v): %v, %v", p, o, e)
		}
	}
	for _, p := range samples() {
		// One variable twice, and one that isn't there, at each level.
		for level := range p {
			for _, v := range []int{p[(level+1)%len(p)], len(p), -1} {
				q := slices.Clone(p)
				q[level] = v
				if o, e := Of(q); v != p[level] && (o != nil || e != api.Arg) {
					t.Errorf("Of(%v): %v, %v", q, o, e)
				}
			}
		}
	}
}

func TestExample(t *testing.T) { // the chapter's Examples
	o := made(t, []int{1, 0})
	if o.Down(2) != 2 || o.Down(1) != 1 || o.Down(0) != 0 || o.Down(3) != 3 {
		t.Errorf("1, 0: Down of 2, 1, 0, 3: %d, %d, %d, %d", o.Down(2), o.Down(1), o.Down(0), o.Down(3))
	}
	if o, _ = New(2); o.Down(2) != 1 || o.Down(1) != 2 || o.Up(2) != 1 || o.Up(1) != 2 {
		t.Errorf("0, 1: Down of 2, 1: %d, %d", o.Down(2), o.Down(1))
	}
	if o, _ = New(16); o.Down(1) != 1<<15 || o.Down(1<<15) != 1 || o.Levels(1) != 1 || o.Levels(1<<15) != 1<<15 {
		t.Errorf("16 variables: Down of the first: %d, of the last: %d", o.Down(1), o.Down(1<<15))
	}
}

func TestSame(t *testing.T) { // P9.1: the same variables at the same levels
	var lists [][]int
	for n := range 5 {
		lists = append(lists, all(n)...)
	}
	lists = append(lists, drawn()...)
	for _, p := range lists {
		o := made(t, p)
		for _, q := range lists {
			if o.Same(made(t, q)) != slices.Equal(p, q) {
				t.Errorf("Same of %v and %v: %v", p, q, !slices.Equal(p, q))
			}
		}
	}
}

func TestSameOfOtherLengths(t *testing.T) { // P9.1: one that begins, or ends, as another one isn't the same
	for n := range api.MaxVars + 1 {
		for k := range api.MaxVars + 1 {
			o, _ := New(n)
			p, _ := New(k)
			q := made(t, counting(k, k-1, -1))
			if o.Same(p) != (n == k) || o.Same(q) != (n == k && n < 2) || q.Same(o) != o.Same(q) {
				t.Errorf("Same of %d and %d variables: %v, the other way round %v", n, k, o.Same(p), o.Same(q))
			}
		}
	}
}

func TestSameOfNil(t *testing.T) { // P9.1: nil is the same as nil alone
	var none *Order
	if !none.Same(nil) || !none.Same(none.Copy()) {
		t.Error("nil isn't the same as nil")
	}
	for n := range api.MaxVars + 1 {
		if o, _ := New(n); none.Same(o) || o.Same(nil) || o.Same(none) {
			t.Errorf("nil is the same as one of %d variables", n)
		}
	}
}

func TestSameAgain(t *testing.T) { // P9.1: hangs on how an order is, not on how it came to be
	for _, p := range samples() {
		o := made(t, p)
		steps, _ := perm.Steps(p, counting(len(p), 0, 1))
		for _, level := range steps {
			o.Swap(level)
		}
		plain, _ := New(len(p))
		if !o.Same(plain) || !plain.Same(o) || o.Same(made(t, p)) != slices.IsSorted(p) {
			t.Errorf("%v, by swaps in order: %v", p, o.Perm())
		}
	}
}

func TestSwap(t *testing.T) { // P9.2: at each level; any other one: Var, and nothing is changed
	for _, p := range samples() {
		for level := range len(p) - 1 {
			o := made(t, p)
			what := fmt.Sprintf("%v, Swap(%d)", p, level)
			if e := o.Swap(level); e != api.OK {
				t.Errorf("%s: %v", what, e)
			}
			q := slices.Concat(p[:level], []int{p[level+1], p[level]}, p[level+2:])
			check(t, what, o, q)
			if o.Same(made(t, p)) {
				t.Errorf("%s: is the same", what)
			}
		}
		o := made(t, p)
		for _, level := range append(outside(len(p)), len(p)-1) {
			if e := o.Swap(level); e != api.Var {
				t.Errorf("%v, Swap(%d): %v", p, level, e)
			}
		}
		check(t, "wrong swaps", o, p)
	}
}

func TestSwapOfFew(t *testing.T) { // P9.2: no level has a next one, where there are less than two
	for n := range 2 {
		o, _ := New(n)
		for level := -3; level < 4; level++ {
			if e := o.Swap(level); e != api.Var {
				t.Errorf("%d variables, Swap(%d): %v", n, level, e)
			}
		}
	}
}

func TestDown(t *testing.T) { // P9.3: each assignment of every order, and back
	for _, p := range samples() {
		o := made(t, p)
		seen := make([]bool, 1<<len(p))
		for x := range 1 << len(p) {
			down := o.Down(x)
			if down != wantedDown(p, x) || o.Up(down) != x {
				t.Fatalf("%v: Down(%d): %d, Up of it: %d; not %d", p, x, down, o.Up(down), wantedDown(p, x))
			}
			if seen[down] {
				t.Fatalf("%v: Down(%d): %d, again", p, x, down)
			}
			seen[down] = true
		}
		last := 1<<len(p) - 1
		if o.Down(0) != 0 || o.Up(0) != 0 || o.Down(last) != last || o.Up(last) != last {
			t.Errorf("%v: Down of 0 and %d: %d, %d", p, last, o.Down(0), o.Down(last))
		}
		check(t, "Down and Up", o, p)
	}
}

func TestDownOfWrong(t *testing.T) { // P9.3: -1 of what is no assignment
	for _, p := range samples() {
		o := made(t, p)
		for _, x := range noAssignments(len(p)) {
			if 0 <= x && x < 1<<len(p) {
				t.Fatalf("%d is an assignment of %d variables", x, len(p))
			}
			if o.Down(x) != -1 || o.Up(x) != -1 {
				t.Errorf("%v: Down(%d): %d, Up: %d", p, x, o.Down(x), o.Up(x))
			}
		}
	}
}

func TestOneAssignment(t *testing.T) { // P9.3: of no variables there is one
	o, _ := New(0)
	if o.Down(0) != 0 || o.Up(0) != 0 || o.Down(1) != -1 || o.Up(1) != -1 || o.Down(-1) != -1 || o.Up(-1) != -1 {
		t.Errorf("no variables: Down of 0, 1: %d, %d", o.Down(0), o.Down(1))
	}
}

func TestLevels(t *testing.T) { // P9.3: of all sets of variables, of those that aren't there, too
	for i, p := range samples() {
		o := made(t, p)
		step := 1
		if len(p) == 5 && i%8 != 0 {
			step = 31 // the bits of variables that aren't there need no more
		}
		for vars := 0; vars <= math.MaxUint16; vars += step {
			if got := o.Levels(uint16(vars)); got != wantedLevels(p, uint16(vars)) {
				t.Fatalf("%v: Levels(%b): %b, not %b", p, vars, got, wantedLevels(p, uint16(vars)))
			}
		}
		there := uint16(1<<len(p) - 1)
		if o.Levels(0) != 0 || o.Levels(there) != there || o.Levels(^there) != 0 || o.Levels(math.MaxUint16) != there {
			t.Errorf("%v: Levels of none, of all, of others: %b, %b, %b", p, o.Levels(0), o.Levels(there), o.Levels(^there))
		}
		check(t, "Levels", o, p)
	}
}

func TestDownOfVariablesIsAsLevels(t *testing.T) { // P9.3: the level l is the bit l of Levels, but n - 1 - l of Down
	for _, p := range samples() {
		o := made(t, p)
		for x := range min(1<<len(p), 1000) {
			levels, down := o.Levels(uint16(x)), o.Down(x)
			for level := range p {
				if int(levels>>level)&1 != down>>(len(p)-1-level)&1 {
					t.Errorf("%v: %b has the levels %b, is %b by levels", p, x, levels, down)
				}
			}
		}
	}
}

func TestNil(t *testing.T) { // P9.1 to P9.3, R1: a nil order at each call
	var none *Order
	if none.Vars() != 0 || len(none.Perm()) != 0 || none.Copy() != nil {
		t.Errorf("nil: %d variables, %v, copy %v", none.Vars(), none.Perm(), none.Copy())
	}
	for _, i := range append(outside(3), 0, 1, 2, 15, 16) {
		if none.Var(i) != -1 || none.Level(i) != -1 || none.Down(i) != -1 || none.Up(i) != -1 {
			t.Errorf("nil, of %d: Var %d, Level %d, Down %d, Up %d", i, none.Var(i), none.Level(i), none.Down(i), none.Up(i))
		}
		if e := none.Swap(i); e != api.Nil {
			t.Errorf("nil: Swap(%d): %v", i, e)
		}
	}
	for vars := range 1 << 16 {
		if none.Levels(uint16(vars)) != 0 {
			t.Errorf("nil: Levels(%b): %b", vars, none.Levels(uint16(vars)))
		}
	}
}

func TestOrderThatNobodyMade(t *testing.T) { // R1: it has no variables
	check(t, "zero value", &Order{}, nil)
	check(t, "its copy", (&Order{}).Copy(), nil)
	if e := (&Order{}).Swap(0); e != api.Var {
		t.Errorf("zero value: Swap: %v", e)
	}
	for _, x := range noAssignments(0) {
		if (&Order{}).Down(x) != -1 || (&Order{}).Up(x) != -1 {
			t.Errorf("zero value: Down(%d), Up", x)
		}
	}
}

// overwrite changes a list, and what stands behind it.
func overwrite(l []int) {
	l = l[:cap(l)]
	for i := range l {
		l[i] = -7
	}
}

func TestOfKeepsNothing(t *testing.T) { // R4: what was given to Of may be changed, and is as it was
	for _, p := range samples() {
		given := append(make([]int, 0, len(p)+8), p...)
		o := made(t, given)
		if !slices.Equal(given, p) || slices.ContainsFunc(given[len(p):cap(given)], func(v int) bool { return v != 0 }) {
			t.Errorf("Of(%v): is %v now", p, given[:cap(given)])
		}
		overwrite(given)
		check(t, "given list changed", o, p)
		given = append(given[:0], p...)
		if len(p) > 1 {
			o.Swap(0)
		}
		if !slices.Equal(given, p) {
			t.Errorf("Of(%v), then Swap: the list is %v", p, given)
		}
	}
}

func TestPermIsTheCallers(t *testing.T) { // R4: what Perm tells may be changed, and isn't changed
	for _, p := range samples() {
		o := made(t, p)
		first, second := o.Perm(), o.Perm()
		overwrite(first)
		if !slices.Equal(second, p) {
			t.Errorf("%v: two lists of Perm are one", p)
		}
		check(t, "told list changed", o, p)
		if len(p) > 1 {
			o.Swap(len(p) - 2)
		}
		if !slices.Equal(second, p) {
			t.Errorf("%v: a told list is %v behind a swap", p, second)
		}
	}
}

func TestCopy(t *testing.T) { // P9.1, R4: it is the same, and each of both stays as it is when the other one is swapped
	for _, p := range samples() {
		o := made(t, p)
		c := o.Copy()
		if c == nil || c == o || !c.Same(o) || !o.Same(c) {
			t.Fatalf("%v: Copy: %v", p, c.Perm())
		}
		check(t, "copy", c, p)
		for level := range len(p) - 1 {
			swapped := slices.Clone(p)
			swapped[level], swapped[level+1] = swapped[level+1], swapped[level]
			o.Swap(level)
			check(t, "swapped, copy not", o, swapped)
			check(t, "copy, the other one swapped", c, p)
			if o.Same(c) || c.Same(o) {
				t.Errorf("%v: a swap at %d is the copy's, too", p, level)
			}
			o.Swap(level)
			c.Swap(level)
			check(t, "copy swapped", c, swapped)
			check(t, "copy swapped, the other one not", o, p)
			c.Swap(level)
		}
		check(t, "copy of a copy", c.Copy(), p)
	}
}

func TestSwapTwice(t *testing.T) { // P9.4: leaves an order as it was
	for _, p := range samples() {
		o := made(t, p)
		before := o.Copy()
		for level := range len(p) - 1 {
			first, second := o.Swap(level), o.Swap(level)
			if first != api.OK || second != api.OK || !o.Same(before) {
				t.Errorf("%v, two swaps at %d: %v, %v, %v", p, level, first, second, o.Perm())
			}
		}
		check(t, "two swaps", o, p)
	}
}

func TestUpDown(t *testing.T) { // P9.4: there and back, by either first
	for _, p := range samples() {
		o := made(t, p)
		for x := range 1 << len(p) {
			if o.Up(o.Down(x)) != x || o.Down(o.Up(x)) != x {
				t.Fatalf("%v: %d, Down and Up: %d, Up and Down: %d", p, x, o.Up(o.Down(x)), o.Down(o.Up(x)))
			}
		}
	}
}

func TestBothWays(t *testing.T) { // P9.4: the permutation and its inverse; steps of perm lead an order from one to another
	source := rand.New(rand.NewSource(10))
	for _, p := range samples() {
		back, _ := perm.Inverse(p)
		o, inverse := made(t, p), made(t, back)
		for i := range p {
			if o.Var(i) != inverse.Level(i) || o.Level(i) != inverse.Var(i) || o.Var(o.Level(i)) != i || o.Level(o.Var(i)) != i {
				t.Errorf("%v and %v: at %d: %d, %d", p, back, i, o.Var(i), inverse.Level(i))
			}
		}
		q := source.Perm(len(p))
		steps, _ := perm.Steps(p, q)
		for _, level := range steps {
			if e := o.Swap(level); e != api.OK {
				t.Errorf("%v, Swap(%d): %v", p, level, e)
			}
		}
		check(t, "by steps", o, q)
	}
}

func TestLongRun(t *testing.T) { // P9.2, P9.4: each step of a long run of swaps, right and wrong ones, held against a plain list
	source := rand.New(rand.NewSource(11))
	for n := range api.MaxVars + 1 {
		l := source.Perm(n)
		o := made(t, l)
		for step := range 600 {
			level := source.Intn(n+4) - 2
			e := o.Swap(level)
			if can := level >= 0 && level+1 < n; can != (e == api.OK) || !can && e != api.Var {
				t.Fatalf("step %d, %v: Swap(%d): %v", step, l, level, e)
			}
			if e == api.OK {
				l[level], l[level+1] = l[level+1], l[level]
			}
			check(t, fmt.Sprint("step ", step), o, l)
			x := source.Intn(1 << n)
			if down := o.Down(x); down != wantedDown(l, x) || o.Up(down) != x {
				t.Fatalf("step %d, %v: Down(%d): %d", step, l, x, down)
			}
			if vars := uint16(source.Intn(1 << 16)); o.Levels(vars) != wantedLevels(l, vars) {
				t.Fatalf("step %d, %v: Levels(%b): %b", step, l, vars, o.Levels(vars))
			}
		}
	}
}

func TestNothingHangsOnWhatWasAsked(t *testing.T) { // R6: two orders, one of which is asked a lot, stay the same
	for _, p := range samples() {
		o, quiet := made(t, p), made(t, p)
		for _, i := range append(outside(len(p)), 0, 1, 2, len(p)-1) {
			o.Var(i)
			o.Level(i)
			o.Down(i)
			o.Up(i)
			o.Levels(uint16(i))
			o.Same(nil)
			o.Copy()
		}
		if !o.Same(quiet) || !quiet.Same(o) {
			t.Errorf("%v: is %v, asked", p, o.Perm())
		}
		check(t, "asked", o, p)
	}
}
