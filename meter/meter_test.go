package meter

import (
	"math"
	"math/big"
	"math/rand"
	"slices"
	"strings"
	"testing"

	"ramage/api"
	"ramage/apply"
	"ramage/build"
	"ramage/canon"
	"ramage/order"
	"ramage/store"
)

func TestExample(t *testing.T) { // P21.3: the chapter's example, and those of DOC.md
	sized(t, inOrder(t, 1), setOf("11"), 0, 1, 0, 1, 0)
	pairs := []byte(zeros(16))
	for x := range pairs {
		if x&5 == 5 || x&10 == 10 {
			pairs[x] = '1'
		}
	}
	sizes, _ := Sizes(inOrder(t, 4), setOf(string(pairs)))
	other, _ := Sizes(ordered(t, 0, 2, 1, 3), setOf(string(pairs)))
	if len(sizes) != 5 || len(other) != 5 || sizes[0] != 6 || other[0] != 4 {
		t.Errorf("%v, %v", sizes, other)
	}
	sized(t, inOrder(t, 16), setOf(ones(1<<16)), 0, 16, 0, 1, 0)
	some, _ := Sizes(inOrder(t, 16), setOf("0"+ones(1<<16-1)))
	if len(some) != 5 || some[0] != 16 || some[2] != 1 {
		t.Errorf("%v", some)
	}
	sized(t, inOrder(t, 16), setOf(padded("1", 1<<16)), 16, 0, 1, 0, 0)
}

func TestWeighByHand(t *testing.T) { // P21.1: what is left out, chains and tags, form by form
	lo, hi := []uint64{2, 3, 5, 7}, []uint64{11, 13, 17, 19}
	one := func(x uint64) []uint64 { return []uint64{x} }
	s := made(t, 4, 50)
	node := func(f api.Form, top, bot uint8, lo, hi api.Edge) uint32 {
		return found(t, s, api.Record{Form: f, Top: top, Bot: bot, Lo: lo, Hi: hi})
	}
	// 1 at the level 2: free around it, or 0
	weighs(t, s, api.BDD, at(0, node(api.BDD, 2, 2, nothing, at(0, 1))), lo, hi, one(13*16*17*26))
	weighs(t, s, api.ZDD, at(0, node(api.ZDD, 2, 2, nothing, at(0, 1))), lo, hi, one(2*3*17*7))
	// some 1 at the levels 1 and 2
	weighs(t, s, api.CBDD, at(0, node(api.CBDD, 1, 2, nothing, at(0, 1))), lo, hi, one(13*(13*17+3*17+13*5)*26))
	// 1 at the level 2, anything at the level 1
	weighs(t, s, api.CZDD, at(0, node(api.CZDD, 1, 2, nothing, at(0, 1))), lo, hi, one(2*16*17*7))
	// free above the tag, 0 from there to the node
	low := node(api.TBDD, 2, 2, nothing, at(3, 1))
	for tag, want := range []uint64{2 * 3, 13 * 3, 13 * 16} {
		weighs(t, s, api.TBDD, at(tag, low), lo, hi, one(want*17*7))
	}
	low = node(api.TBDD, 2, 2, at(3, 1), at(4, 1))
	weighs(t, s, api.TBDD, at(1, low), lo, hi, one(13*3*(5*7+17*26)))
	// one: everything, or noughts alone, or both
	weighs(t, s, api.BDD, at(0, 1), lo, hi, one(13*16*22*26))
	weighs(t, s, api.CZDD, at(0, 1), lo, hi, one(2*3*5*7))
	weighs(t, s, api.TBDD, at(2, 1), lo, hi, one(13*16*5*7))
	// chains to both sides
	last := node(api.CBDD, 3, 3, at(0, 1), nothing)
	weighs(t, s, api.CBDD, at(0, node(api.CBDD, 0, 2, at(0, last), at(0, 1))), lo, hi, one(2*3*5*7+(13*16*22-2*3*5)*26))
	final := node(api.CZDD, 3, 3, at(0, 1), at(0, 1))
	weighs(t, s, api.CZDD, at(0, node(api.CZDD, 0, 2, at(0, final), at(0, 1))), lo, hi, one(13*16*(5*26+17*7)))
	for _, f := range forms {
		weighs(t, s, f, nothing, lo, hi, nil)
	}
}

func TestNodesByHand(t *testing.T) { // P21.2: a chain counts at its Top alone; a node that two ways lead to counts once; Lo and Hi to the same are two ways
	s := made(t, 4, 50)
	node := func(f api.Form, top, bot uint8, lo, hi api.Edge) api.Edge {
		return tagged(f, found(t, s, api.Record{Form: f, Top: top, Bot: bot, Lo: lo, Hi: hi}), int(top))
	}
	last := node(api.CZDD, 3, 3, at(0, 1), at(0, 1))
	hasNodes(t, s, api.CZDD, last, 1, 2, 0, 0, 0, 1)
	chain := node(api.CZDD, 0, 2, last, last)
	hasNodes(t, s, api.CZDD, chain, 2, 4, 1, 0, 0, 1)
	hasNodes(t, s, api.CZDD, node(api.CZDD, 1, 2, nothing, last), 2, 2, 0, 1, 0, 1)
	final := node(api.BDD, 3, 3, nothing, at(0, 1))
	upper := node(api.BDD, 1, 1, final, at(0, 1))
	hasNodes(t, s, api.BDD, final, 1, 1, 0, 0, 0, 1)
	hasNodes(t, s, api.BDD, node(api.BDD, 0, 0, upper, final), 3, 3, 1, 1, 0, 1)
	hasNodes(t, s, api.CBDD, node(api.CBDD, 1, 3, nothing, at(0, 1)), 1, 1, 0, 1, 0, 0)
	low := node(api.TBDD, 3, 3, nothing, at(4, 1))
	e := node(api.TBDD, 1, 1, at(2, low.At), low)
	hasNodes(t, s, api.TBDD, e, 2, 2, 0, 1, 0, 1)
	hasNodes(t, s, api.TBDD, at(0, e.At), 2, 2, 0, 1, 0, 1)
	for _, f := range forms {
		hasNodes(t, s, f, nothing, 0, 0, 0, 0, 0, 0)
		hasNodes(t, s, f, tagged(f, 1, 2), 0, 1, 0, 0, 0, 0)
	}
}

func TestTerminals(t *testing.T) { // P21.1, P21.2: nothing and one, of 0 to 16 variables, with each tag, in stores without room
	for n := range api.MaxVars + 1 {
		s := made(t, n, 0)
		r := rand.New(rand.NewSource(int64(n)))
		lo, hi := weights(r, n), weights(r, n)
		for _, f := range forms {
			asTable(t, s, f, nothing, zeros(1<<n), lo, hi)
			hasNodes(t, s, f, nothing, 0, 0, make([]int, n)...)
			for tag := range n + 1 {
				if e := tagged(f, 1, tag); f == api.TBDD || tag == 0 {
					asTable(t, s, f, e, meaning(s, f, e, 0), lo, hi)
					hasNodes(t, s, f, e, 0, 1, make([]int, n)...)
				}
			}
		}
	}
	s := made(t, 16, 0)
	counts(t, s, api.BDD, at(0, 1), 1<<16)
	counts(t, s, api.ZDD, at(0, 1), 1)
	haveOnes(t, s, api.CZDD, at(0, 1), append([]int{1}, make([]int, 16)...)...)
	counts(t, s, api.TBDD, at(5, 1), 32)
	haveOnes(t, s, api.TBDD, at(16, 1), 1, 16, 120, 560, 1820, 4368, 8008, 11440, 12870, 11440, 8008, 4368, 1820, 560, 120, 16, 1)
}

func TestNoVariables(t *testing.T) { // P21.1 to P21.3: no variables: the product of none is 1; lists nil and empty; a store that New didn't make
	for _, s := range []*store.Store{made(t, 0, 0), made(t, 0, 5), {}} {
		for _, f := range forms {
			for _, list := range [][]uint64{nil, {}} {
				weighs(t, s, f, at(0, 1), list, list, []uint64{1})
				weighs(t, s, f, nothing, list, nil, nil)
				noWeight(t, s, f, at(0, 1), list, []uint64{0}, api.Arg)
				noWeight(t, s, f, at(0, 1), []uint64{0}, list, api.Arg)
				noWeight(t, s, f, at(0, 1), []uint64{1}, []uint64{1}, api.Arg)
			}
			counts(t, s, f, at(0, 1), 1)
			counts(t, s, f, nothing, 0)
			haveOnes(t, s, f, at(0, 1), 1)
			haveOnes(t, s, f, nothing, 0)
			hasNodes(t, s, f, at(0, 1), 0, 1)
			hasNodes(t, s, f, nothing, 0, 0)
		}
	}
	for _, o := range []*order.Order{inOrder(t, 0), {}} {
		sized(t, o, setOf("0"), 0, 0, 0, 0, 0)
		sized(t, o, setOf("1"), 0, 0, 0, 0, 0)
		noSizes(t, o, setOf("10"), api.Arg)
		noSizes(t, o, api.Set{}, api.Arg)
		noSizes(t, o, api.Set{Words: []uint64{2}}, api.Arg)
	}
}

func TestEach(t *testing.T) { // P21.1, P21.2: all nodes that may be of up to three variables, right ones and others: each edge at the level 0
	r := rand.New(rand.NewSource(211))
	for n := range 4 {
		s := everything(t, n, 0)
		old := records(s)
		for _, f := range forms {
			for _, e := range leading(s, f, 0) {
				asTable(t, s, f, e, meaning(s, f, e, 0), weights(r, n), weights(r, n))
				asNodes(t, s, f, e)
			}
		}
		sameNodes(t, s, old)
	}
}

func TestNoRight(t *testing.T) { // P21.1, P21.2: edges that aren't right, one by one and drawn ones, of what they mean
	s := mixed(t, 0)
	r := rand.New(rand.NewSource(212))
	for _, f := range forms {
		for _, e := range leading(s, f, 0) {
			asTable(t, s, f, e, meaning(s, f, e, 0), []uint64{2, 3, 5, 7}, []uint64{11, 13, 17, 19})
			asNodes(t, s, f, e)
		}
	}
	wrong := 0
	for range 400 {
		n := 3 + r.Intn(6)
		f := forms[r.Intn(5)]
		s := made(t, n, 200)
		e := cut(t, r, s, f, 30)
		old := records(s)
		if !canon.Right(s, f, e, 0) {
			wrong++
		}
		asTable(t, s, f, e, meaning(s, f, e, 0), weights(r, n), weights(r, n))
		asNodes(t, s, f, e)
		sameNodes(t, s, old)
	}
	if wrong < 100 {
		t.Errorf("%d edges that aren't right", wrong)
	}
}

func TestDrawn(t *testing.T) { // P21.1, P21.2, P21.4: drawn sets of up to nine levels, as each form, side by side; a Profile comes together to canon's Size
	r := rand.New(rand.NewSource(213))
	for n := 1; n < 10; n++ {
		s := made(t, n, api.MaxRoom)
		for range 20 {
			byLevels := draw(r, n)
			lo, hi := weights(r, n), weights(r, n)
			for _, f := range forms {
				e := right(t, s, f, byLevels)
				asTable(t, s, f, e, byLevels, lo, hi)
				asNodes(t, s, f, e)
				sumsHold(t, s, f, e)
			}
		}
	}
}

// sumsHold: Ones come together to Count, a Profile to canon's Size; Weigh with all weights 1 is Count.
func sumsHold(t *testing.T, s *store.Store, f api.Form, e api.Edge) {
	t.Helper()
	all, _ := Count(s, f, e)
	ones, _ := Ones(s, f, e)
	profile, _ := Profile(s, f, e)
	size, _ := canon.Size(s, f, e, 0)
	if !slices.Equal(all, number(big.NewInt(int64(total(ones))))) || total(profile) != size {
		t.Fatalf("%d, %v: Count %v, Ones %v, Profile %v, Size %d", f, e, all, ones, profile, size)
	}
	weighs(t, s, f, e, alike(s.Vars(), 1), alike(s.Vars(), 1), all)
}

// total of numbers.
func total(list []int) int {
	sum := 0
	for _, x := range list {
		sum += x
	}
	return sum
}

func TestSixteen(t *testing.T) { // P21.1, P21.2: sixteen levels: long chains, sparse and dense sets; weights of 0, of 1 and of the greatest, on both sides and at all levels
	r := rand.New(rand.NewSource(214))
	dense := make([]byte, 1<<16)
	for x := range dense {
		dense[x] = '0' + byte(r.Intn(2))
	}
	list := append(long(16), string(dense), draw(r, 16), draw(r, 16))
	for i, byLevels := range list {
		lo, hi := weights(r, 16), weights(r, 16)
		wants := weighed(byLevels, lo, hi)
		mostly := weighed(byLevels, alike(16, greatest), alike(16, greatest))
		lower := weighed(byLevels, alike(16, greatest), alike(16, 1))
		for _, f := range forms {
			s := made(t, 16, 1<<16)
			e := right(t, s, f, byLevels)
			size := s.Len()
			weighs(t, s, f, e, lo, hi, wants)
			weighs(t, s, f, e, alike(16, greatest), alike(16, greatest), mostly)
			weighs(t, s, f, e, alike(16, greatest), alike(16, 1), lower)
			weighs(t, s, f, e, alike(16, 0), alike(16, 0), nil)
			if byLevels[0] == '0' {
				weighs(t, s, f, e, alike(16, greatest), alike(16, 0), nil)
			}
			counts(t, s, f, e, strings.Count(byLevels, "1"))
			haveOnes(t, s, f, e, onesOf(byLevels)...)
			if i < 10 {
				asNodes(t, s, f, e)
			}
			sumsHold(t, s, f, e)
			if s.Len() != size {
				t.Fatalf("%d nodes, were %d", s.Len(), size)
			}
		}
	}
}

func TestGreatest(t *testing.T) { // P21.1: all weights the greatest number of 64 bits, of all assignments of 16 levels: 2 to 16 times that to the power of 16
	s := made(t, 16, 0)
	want := new(big.Int).Exp(new(big.Int).SetUint64(greatest), big.NewInt(16), nil)
	words := number(want.Lsh(want, 16))
	if len(words) != 17 {
		t.Fatalf("%d words", len(words))
	}
	for _, f := range []api.Form{api.BDD, api.CBDD} {
		weighs(t, s, f, at(0, 1), alike(16, greatest), alike(16, greatest), words)
	}
	weighs(t, s, api.TBDD, at(16, 1), alike(16, greatest), alike(16, greatest), words)
	weighs(t, s, api.ZDD, at(0, 1), alike(16, greatest), alike(16, 0), number(want.Rsh(want, 16)))
}

func TestWeightsOfOneLevel(t *testing.T) { // P21.1: a weight of 0 at one level, on one side: half of what there is weighs nothing
	r := rand.New(rand.NewSource(215))
	s := made(t, 6, 5000)
	for range 30 {
		byLevels := draw(r, 6)
		for _, f := range forms {
			e := right(t, s, f, byLevels)
			for k := range 6 {
				lo, hi := alike(6, 1), alike(6, 1)
				lo[k] = 0
				weighs(t, s, f, e, lo, hi, weighed(byLevels, lo, hi))
				lo[k], hi[k] = greatest, 0
				weighs(t, s, f, e, lo, hi, weighed(byLevels, lo, hi))
			}
		}
	}
}

func TestLists(t *testing.T) { // P21.1: a list that hasn't n numbers, either of them or both, behind an edge that doesn't lead
	for n := range 17 {
		s := made(t, n, 3)
		for _, f := range forms {
			one := tagged(f, 1, n)
			weighs(t, s, f, one, alike(n, 1), alike(n, 0), weighed(meaning(s, f, one, 0), alike(n, 1), alike(n, 0)))
			for _, length := range []int{0, n - 1, n + 1, n + 16, 64, 65536} {
				if length == n || length < 0 {
					continue
				}
				for _, e := range []api.Edge{nothing, one} {
					noWeight(t, s, f, e, alike(length, 1), alike(n, 1), api.Arg)
					noWeight(t, s, f, e, alike(n, 1), alike(length, 1), api.Arg)
					noWeight(t, s, f, e, alike(length, 1), alike(length, 1), api.Arg)
				}
			}
			if n > 0 {
				noWeight(t, s, f, one, nil, nil, api.Arg)
				noWeight(t, s, f, one, nil, alike(n, 1), api.Arg)
				noWeight(t, s, f, one, alike(n, 1), []uint64{}, api.Arg)
			}
		}
	}
}

func TestNoLead(t *testing.T) { // P21.1, P21.2: what doesn't lead at the level 0: Arg, also with lists that haven't n numbers
	s := mixed(t, 5)
	for _, f := range forms {
		for id := range uint32(s.Len() + 4) {
			for tag := range 7 {
				if e := at(tag, id); !s.Leads(f, e, 0) {
					noMeasure(t, s, f, e, api.Arg)
				}
			}
		}
		noMeasure(t, s, f, at(0, math.MaxUint32), api.Arg)
		noMeasure(t, s, f, at(255, 1), api.Arg)
		noMeasure(t, s, f, at(1, 0), api.Arg)
	}
	low := found(t, s, api.Record{Form: api.TBDD, Top: 2, Bot: 2, Hi: at(4, 1)})
	noMeasure(t, s, api.TBDD, at(3, low), api.Arg)
	noMeasure(t, s, api.BDD, at(0, low), api.Arg)
	counts(t, s, api.TBDD, at(2, low), 8)
	s.Sweep(nil)
	noMeasure(t, s, api.TBDD, at(2, low), api.Arg)
}

func TestFirstErrors(t *testing.T) { // P21.1, P21.2: a nil store, what is no form, an edge that doesn't lead, in this order
	var none *store.Store
	for _, f := range append(noForms(), forms...) {
		for _, e := range []api.Edge{nothing, at(0, 1), at(9, 99)} {
			noMeasure(t, none, f, e, api.Nil)
		}
	}
	for _, s := range []*store.Store{mixed(t, 0), made(t, 0, 0), {}} {
		for _, f := range noForms() {
			for _, e := range []api.Edge{nothing, at(0, 1), at(0, 2), at(9, 99)} {
				noMeasure(t, s, f, e, api.Shape)
			}
		}
	}
}

func TestSizesOfAll(t *testing.T) { // P21.3, P21.4: all sets of up to three variables and drawn ones of four, under all orders
	r := rand.New(rand.NewSource(216))
	for n := range 5 {
		for _, o := range orders(t, n) {
			for x := range min(1<<(1<<n), 256) {
				if n == 4 {
					x = r.Intn(1 << 16)
				}
				sizesHold(t, o, table(uint64(x), 1<<n))
			}
		}
	}
}

// sizesHold: Sizes of a set, by variables, against canon's Size of what build makes, and against its table; and the laws.
func sizesHold(t *testing.T, o *order.Order, byVars string) {
	t.Helper()
	set := setOf(byVars)
	s := made(t, o.Vars(), 5<<o.Vars())
	var want []int
	for _, f := range forms {
		e, err := build.Of(s, o, f, set)
		if err != api.OK {
			t.Fatalf("build.Of: %v", err)
		}
		size, _ := canon.Size(s, f, e, 0)
		if mine := nodesOf(f, byLevelsOf(o, byVars)); size != mine {
			t.Fatalf("%v, %d, %s: %d, but %d", o.Perm(), f, byVars, size, mine)
		}
		want = append(want, size)
	}
	sized(t, o, set, want...)
	if want[2] > want[0] || want[3] > want[1] || want[4] > min(want[0], want[1]) {
		t.Fatalf("%v, %s: %v", o.Perm(), byVars, want)
	}
}

func TestSizesDrawn(t *testing.T) { // P21.3, P21.4: drawn sets of up to ten variables, under drawn orders
	r := rand.New(rand.NewSource(217))
	for n := 5; n < 11; n++ {
		for range 12 {
			sizesHold(t, drawnOrder(t, r, n), draw(r, n))
		}
	}
	for _, byVars := range long(16)[:5] {
		sizesHold(t, drawnOrder(t, r, 16), byVars)
	}
}

func TestSizesSixteen(t *testing.T) { // P21.3: a set of sixteen variables of which each part is another one, so far as may be: there is room for it
	r := rand.New(rand.NewSource(218))
	b := make([]byte, 1<<16)
	for x := range b {
		b[x] = '0' + byte(r.Intn(2))
	}
	sizesHold(t, drawnOrder(t, r, 16), string(b))
}

func TestSizesErrors(t *testing.T) { // P21.3: a nil order, ahead of a set that isn't right; a set that isn't, or has other Vars
	var none *order.Order
	bad := []api.Set{{}, {Vars: -1, Words: []uint64{0}}, {Vars: 17, Words: make([]uint64, 2048)}, {Vars: 3}, {Vars: 3, Words: []uint64{0, 0}},
		{Vars: 3, Words: []uint64{1 << 8}}, {Vars: 0, Words: []uint64{2}}, {Vars: 7, Words: []uint64{1}}, {Vars: 7, Words: []uint64{1, 1, 1}},
		{Vars: math.MaxInt, Words: []uint64{1}}, {Vars: math.MinInt}, {Vars: 16, Words: make([]uint64, 1023)}, {Vars: 16, Words: make([]uint64, 1025)}}
	for n := range 17 {
		o := inOrder(t, n)
		noSizes(t, none, setOf(zeros(1<<n)), api.Nil)
		for _, set := range bad {
			noSizes(t, none, set, api.Nil)
			noSizes(t, o, set, api.Arg)
			set.Vars = n
			if len(set.Words) != max(1, 1<<n/64) {
				noSizes(t, o, set, api.Arg)
			}
		}
		for _, m := range []int{n - 1, n + 1, 16 - n} {
			if m != n && m >= 0 && m < 17 {
				noSizes(t, o, setOf(zeros(1<<m)), api.Arg)
				noSizes(t, o, setOf(ones(1<<m)), api.Arg)
			}
		}
		if n < 6 {
			noSizes(t, o, api.Set{Vars: n, Words: []uint64{1 << (1 << n)}}, api.Arg)
			noSizes(t, o, api.Set{Vars: n, Words: []uint64{1 << 63}}, api.Arg)
		}
		sized(t, o, setOf(zeros(1<<n)), 0, 0, 0, 0, 0)
		sized(t, o, setOf(ones(1<<n)), 0, n, 0, min(n, 1), 0)
	}
}

func TestTogether(t *testing.T) { // P21.4: what is in a or b and what is in both are together as many as a and b have, and weigh as much
	r := rand.New(rand.NewSource(219))
	s := made(t, 7, api.MaxRoom)
	o, err := apply.New(s, 10)
	if err != api.OK {
		t.Fatal(err)
	}
	for range 40 {
		x, y := draw(r, 7), draw(r, 7)
		lo, hi := weights(r, 7), weights(r, 7)
		for _, f := range forms {
			a, b := right(t, s, f, x), right(t, s, f, y)
			some, _ := o.Apply(f, 14, a, b)
			both, _ := o.Apply(f, 8, a, b)
			for _, what := range []func(e api.Edge) []uint64{
				func(e api.Edge) []uint64 { c, _ := Count(s, f, e); return c },
				func(e api.Edge) []uint64 { c, _ := Weigh(s, f, e, lo, hi); return c },
			} {
				if !slices.Equal(plus(what(a), what(b)), plus(what(some), what(both))) {
					t.Fatalf("%d: %v, %v, %v, %v", f, what(a), what(b), what(some), what(both))
				}
			}
		}
	}
}

func TestOwnLists(t *testing.T) { // R4: a list that is told and then changed changes no later answer, and a list handed in may be told's neighbour
	s := made(t, 3, 60)
	set := setOf("01101001")
	for _, f := range forms {
		e := right(t, s, f, "01101001")
		for range 2 {
			weight, _ := Weigh(s, f, e, []uint64{1, 2, 3}, []uint64{4, 5, 6})
			count, _ := Count(s, f, e)
			have, _ := Ones(s, f, e)
			profile, _ := Profile(s, f, e)
			sizes, _ := Sizes(inOrder(t, 3), set)
			if !slices.Equal(weight, weighed("01101001", []uint64{1, 2, 3}, []uint64{4, 5, 6})) || !slices.Equal(count, []uint64{4}) ||
				!slices.Equal(have, []int{0, 3, 0, 1}) || total(profile) != nodesOf(f, "01101001") || len(sizes) != 5 || sizes[0] != 5 {
				t.Fatalf("%d: %v, %v, %v, %v, %v", f, weight, count, have, profile, sizes)
			}
			weight[0], count[0], have[1], profile[0], sizes[0] = 99, 99, 99, 99, 99
		}
		for _, e := range []api.Edge{nothing, tagged(f, 1, 3)} {
			for range 2 {
				have, _ := Ones(s, f, e)
				profile, _ := Profile(s, f, e)
				if total(have) > 8 || total(profile) != 0 {
					t.Fatalf("%d, %v: %v, %v", f, e, have, profile)
				}
				have[0], profile[0] = 99, 99
			}
		}
	}
	for range 2 {
		list := []uint64{7}
		weight, _ := Weigh(made(t, 1, 0), api.ZDD, at(0, 1), list, []uint64{0})
		if !slices.Equal(weight, []uint64{7}) || list[0] != 7 {
			t.Fatal(weight, list)
		}
		weight[0] = 8
		if list[0] != 7 {
			t.Fatal("the list that was handed in changed")
		}
	}
}

func TestNothingPanics(t *testing.T) { // R1, R2, R6: drawn arguments of any kind, and the same again
	r := rand.New(rand.NewSource(220))
	stores := []*store.Store{nil, {}, made(t, 0, 3), made(t, 5, 0), made(t, 16, 0), everything(t, 2, 0), mixed(t, 0), mixed(t, 9)}
	told := 0
	for range 40000 {
		s := stores[r.Intn(len(stores))]
		f, e := api.Form(r.Intn(256)>>r.Intn(8)), at(r.Intn(256)>>r.Intn(9), r.Uint32()>>r.Intn(33))
		if r.Intn(2) == 0 {
			f, e = forms[r.Intn(5)], at(r.Intn(3), uint32(r.Intn(s.Len()+3)))
		}
		want := api.OK
		switch {
		case s == nil:
			want = api.Nil
		case f < 1 || f > 5:
			want = api.Shape
		case !s.Leads(f, e, 0):
			want = api.Arg
		}
		if want != api.OK {
			noMeasure(t, s, f, e, want)
			continue
		}
		told++
		lo, hi := weights(r, max(0, s.Vars()-r.Intn(8)/7)), weights(r, max(0, s.Vars()+r.Intn(8)/7))
		if len(lo) != s.Vars() || len(hi) != s.Vars() {
			noWeight(t, s, f, e, lo, hi, api.Arg)
		} else if s.Vars() < 6 {
			asTable(t, s, f, e, meaning(s, f, e, 0), lo, hi)
		}
		asNodes(t, s, f, e)
	}
	if told < 3000 {
		t.Errorf("few edges led: %d", told)
	}
	for range 2000 {
		o := []*order.Order{nil, {}, inOrder(t, 1), inOrder(t, 2), inOrder(t, 4)}[r.Intn(5)]
		set := api.Set{Vars: r.Intn(6) - 1, Words: weights(r, r.Intn(3))}
		if sizes, err := Sizes(o, set); err != api.OK && len(sizes) != 0 || err == api.OK && len(sizes) != 5 || o == nil && err != api.Nil {
			t.Fatalf("Sizes(%v, %v): %v, %v", o.Perm(), set, sizes, err)
		}
	}
}
