package node

import (
	"fmt"
	"math"
	"math/bits"
	"math/rand"
	"strconv"
	"strings"
	"testing"

	"ramage/api"
	"ramage/cache"
	"ramage/index"
)

// five: the forms.
var five = []api.Form{api.BDD, api.ZDD, api.CBDD, api.CZDD, api.TBDD}

// names of the five forms.
var names = []string{"bdd", "zdd", "cbdd", "czdd", "tbdd"}

// others: every Form that isn't one of the five, 0 and 6 first.
func others() []api.Form {
	l := []api.Form{0, 6}
	for f := 7; f <= math.MaxUint8; f++ {
		l = append(l, api.Form(f))
	}
	return l
}

// forms: the five, and some others.
func forms() []api.Form {
	return append([]api.Form{0, 6, 7, 128, 255}, five...)
}

// wrongCounts: numbers of variables that can't be, those just outside first.
func wrongCounts() []int {
	return []int{-1, 17, -2, -16, 18, 32, 255, 256, 257, 1 << 32, 1<<32 + 4, -1 << 32, math.MaxInt, math.MaxInt - 1, math.MinInt, math.MinInt + 1, math.MinInt + 4}
}

// wrongLevels: numbers that are no level of n variables, those just outside first.
func wrongLevels(n int) []int {
	return []int{-1, n + 1, -2, n + 2, -n - 1, 18, 255, 256, 256 + n, 1 << 32, 1<<32 + n, -1 << 32, math.MaxInt, math.MaxInt - 1, math.MinInt, math.MinInt + 1, math.MinInt + n}
}

// places: where an edge may lead.
func places() []uint32 {
	return []uint32{0, 1, 2, 3, 1 << 8, 1<<16 + 1, api.MaxRoom + 1, 1 << 31, math.MaxUint32}
}

// wantedPlain: the Words of the chapter, one by one.
func wantedPlain(f api.Form, e api.Edge, l, n int) bool {
	if f < api.BDD || f > api.TBDD {
		return false
	}
	if n < 0 || n > 16 {
		return false
	}
	if l < 0 || l > n {
		return false
	}
	if f != api.TBDD || e.At == 0 {
		return e.Tag == 0
	}
	return int(e.Tag) >= l && int(e.Tag) <= n
}

// wantedRight: likewise.
func wantedRight(r api.Record, n int) bool {
	f := r.Form
	isForm := f >= 1 && f <= 5
	notAbove := r.Top <= r.Bot
	below := int(r.Bot) < n
	chain := r.Top == r.Bot || f == api.CBDD || f == api.CZDD
	plain := wantedPlain(f, r.Lo, int(r.Bot)+1, n) && wantedPlain(f, r.Hi, int(r.Bot)+1, n)
	needed := r.Lo.At != r.Hi.At || r.Lo.Tag != r.Hi.Tag
	if f == api.ZDD || f == api.CZDD {
		needed = r.Hi.At != 0
	}
	return isForm && notAbove && below && chain && plain && needed
}

// wantedText: of a record of one of the five forms.
func wantedText(r api.Record) string {
	edge := func(e api.Edge) string {
		if e.Tag != 0 {
			return fmt.Sprintf("%d@%d", e.At, e.Tag)
		}
		return fmt.Sprintf("%d", e.At)
	}
	return fmt.Sprintf("%s %d:%d %s %s", names[r.Form-1], r.Top, r.Bot, edge(r.Lo), edge(r.Hi))
}

// at: an edge without a tag.
func at(id uint32) api.Edge { return api.Edge{At: id} }

// tagged: an edge with a tag.
func tagged(id uint32, tag uint8) api.Edge { return api.Edge{At: id, Tag: tag} }

// record of its parts.
func record(f api.Form, top, bot uint8, lo, hi api.Edge) api.Record {
	return api.Record{Form: f, Top: top, Bot: bot, Lo: lo, Hi: hi}
}

func TestIsForm(t *testing.T) { // P10.1: the five, and no other one
	for _, f := range five {
		if !IsForm(f) {
			t.Errorf("IsForm(%d): false", f)
		}
	}
	if len(others()) != 256-5 {
		t.Fatalf("%d other forms", len(others()))
	}
	for _, f := range others() {
		if IsForm(f) {
			t.Errorf("IsForm(%d): true", f)
		}
	}
}

func TestChained(t *testing.T) { // P10.1: CBDD and CZDD alone
	for f, want := range map[api.Form]bool{api.BDD: false, api.ZDD: false, api.CBDD: true, api.CZDD: true, api.TBDD: false} {
		if Chained(f) != want {
			t.Errorf("Chained(%d): %v", f, !want)
		}
	}
	for _, f := range others() {
		if Chained(f) {
			t.Errorf("Chained(%d): true", f)
		}
	}
}

func TestPlain(t *testing.T) { // P10.1: each form that has no tags, each level: the Tag 0 alone
	for _, f := range []api.Form{api.BDD, api.ZDD, api.CBDD, api.CZDD} {
		for n := range api.MaxVars + 1 {
			for l := range n + 1 {
				for _, id := range places() {
					if !Plain(f, at(id), l, n) {
						t.Errorf("Plain(%d, %d, %d, %d): false", f, id, l, n)
					}
					for _, tag := range []int{1, l, n, n + 1, 255} {
						if tag > 0 && Plain(f, tagged(id, uint8(tag)), l, n) {
							t.Errorf("Plain(%d, %d@%d, %d, %d): true", f, id, tag, l, n)
						}
					}
				}
			}
		}
	}
}

func TestPlainOfTags(t *testing.T) { // P10.1: of a TBDD a Tag from l to n; to nothing none but 0
	for n := range api.MaxVars + 1 {
		for l := range n + 1 {
			for tag := range 256 {
				if Plain(api.TBDD, tagged(0, uint8(tag)), l, n) != (tag == 0) {
					t.Errorf("Plain(tbdd, 0@%d, %d, %d): %v", tag, l, n, tag != 0)
				}
				for _, id := range places()[1:] {
					if want := l <= tag && tag <= n; Plain(api.TBDD, tagged(id, uint8(tag)), l, n) != want {
						t.Errorf("Plain(tbdd, %d@%d, %d, %d): %v", id, tag, l, n, !want)
					}
				}
			}
		}
	}
}

func TestPlainAtEnds(t *testing.T) { // P10.1: Tags at l, n, just outside, and 0
	for _, c := range []struct {
		id   uint32
		tag  uint8
		l, n int
		want bool
	}{
		{1, 0, 0, 0, true}, {1, 1, 0, 0, false}, {0, 0, 0, 0, true}, {0, 1, 0, 0, false},
		{1, 3, 3, 8, true}, {1, 2, 3, 8, false}, {1, 0, 3, 8, false}, {1, 8, 3, 8, true}, {1, 9, 3, 8, false},
		{1, 16, 16, 16, true}, {1, 15, 16, 16, false}, {1, 17, 16, 16, false}, {1, 0, 16, 16, false},
		{1, 0, 0, 16, true}, {1, 16, 0, 16, true}, {1, 17, 0, 16, false}, {1, 255, 0, 16, false},
		{2, 8, 8, 8, true}, {2, 7, 8, 8, false}, {math.MaxUint32, 5, 5, 5, true}, {math.MaxUint32, 6, 5, 5, false},
		{0, 0, 3, 8, true}, {0, 3, 3, 8, false}, {0, 8, 3, 8, false}, {0, 0, 16, 16, true}, {0, 16, 16, 16, false},
	} {
		if Plain(api.TBDD, tagged(c.id, c.tag), c.l, c.n) != c.want {
			t.Errorf("Plain(tbdd, %d@%d, %d, %d): %v", c.id, c.tag, c.l, c.n, !c.want)
		}
	}
}

func TestPlainOfWrong(t *testing.T) { // P10.1: false of what is no form, of an n and an l that can't be
	for _, id := range places() {
		for _, tag := range []uint8{0, 1, 2, 4, 5, 16, 17, 255} {
			e := tagged(id, tag)
			for _, f := range others() {
				if Plain(f, e, 0, 4) || Plain(f, e, 4, 4) || Plain(f, e, 0, 0) || Plain(f, e, 2, 16) {
					t.Errorf("Plain(%d, %v): true", f, e)
				}
			}
			for _, f := range five {
				for _, n := range wrongCounts() {
					for _, l := range []int{0, 1, -1, 2, n, n - 1, n + 1, 16, math.MaxInt, math.MinInt} {
						if Plain(f, e, l, n) {
							t.Errorf("Plain(%d, %v, %d, %d): true", f, e, l, n)
						}
					}
				}
				for n := range api.MaxVars + 1 {
					for _, l := range wrongLevels(n) {
						if Plain(f, e, l, n) {
							t.Errorf("Plain(%d, %v, %d, %d): true", f, e, l, n)
						}
					}
				}
			}
		}
	}
}

// shortOf: a record that is right, and others each of which falls short of a single condition.
type shortOf struct {
	n     int
	right api.Record
	wrong map[string]api.Record
}

// shorts of every form, of 8 variables.
func shorts() []shortOf {
	return []shortOf{
		{8, record(api.BDD, 3, 3, at(5), at(1)), map[string]api.Record{
			"form 0":       record(0, 3, 3, at(5), at(1)),
			"form 6":       record(6, 3, 3, at(5), at(1)),
			"Top above":    record(api.BDD, 2, 3, at(5), at(1)),
			"Top below":    record(api.BDD, 4, 3, at(5), at(1)),
			"Bot at n":     record(api.BDD, 8, 8, at(5), at(1)),
			"Lo has a tag": record(api.BDD, 3, 3, tagged(5, 4), at(1)),
			"Hi has a tag": record(api.BDD, 3, 3, at(5), tagged(1, 4)),
			"alike":        record(api.BDD, 3, 3, at(5), at(5)),
			"both nothing": record(api.BDD, 3, 3, at(0), at(0)),
			"both one":     record(api.BDD, 3, 3, at(1), at(1)),
		}},
		{8, record(api.ZDD, 3, 3, at(5), at(5)), map[string]api.Record{
			"form 255":       record(255, 3, 3, at(5), at(5)),
			"Top above":      record(api.ZDD, 2, 3, at(5), at(5)),
			"Top below":      record(api.ZDD, 4, 3, at(5), at(5)),
			"Bot at n":       record(api.ZDD, 8, 8, at(5), at(5)),
			"Lo has a tag":   record(api.ZDD, 3, 3, tagged(5, 4), at(5)),
			"Hi has a tag":   record(api.ZDD, 3, 3, at(5), tagged(5, 4)),
			"Hi to nothing":  record(api.ZDD, 3, 3, at(5), at(0)),
			"both nothing":   record(api.ZDD, 3, 3, at(0), at(0)),
			"nothing tagged": record(api.ZDD, 3, 3, at(5), tagged(0, 4)),
		}},
		{8, record(api.CBDD, 3, 5, at(5), at(1)), map[string]api.Record{
			"another form": record(api.BDD, 3, 5, at(5), at(1)),
			"Top below":    record(api.CBDD, 6, 5, at(5), at(1)),
			"Bot at n":     record(api.CBDD, 3, 8, at(5), at(1)),
			"Lo has a tag": record(api.CBDD, 3, 5, tagged(5, 6), at(1)),
			"Hi has a tag": record(api.CBDD, 3, 5, at(5), tagged(1, 6)),
			"alike":        record(api.CBDD, 3, 5, at(5), at(5)),
			"both nothing": record(api.CBDD, 3, 5, at(0), at(0)),
		}},
		{8, record(api.CZDD, 3, 5, at(5), at(5)), map[string]api.Record{
			"another form":  record(api.ZDD, 3, 5, at(5), at(5)),
			"Top below":     record(api.CZDD, 6, 5, at(5), at(5)),
			"Bot at n":      record(api.CZDD, 3, 8, at(5), at(5)),
			"Lo has a tag":  record(api.CZDD, 3, 5, tagged(5, 6), at(5)),
			"Hi has a tag":  record(api.CZDD, 3, 5, at(5), tagged(5, 6)),
			"Hi to nothing": record(api.CZDD, 3, 5, at(5), at(0)),
			"both nothing":  record(api.CZDD, 3, 5, at(0), at(0)),
		}},
		{8, record(api.TBDD, 3, 3, tagged(5, 4), tagged(1, 8)), map[string]api.Record{
			"Top above":         record(api.TBDD, 2, 3, tagged(5, 4), tagged(1, 8)),
			"Top below":         record(api.TBDD, 4, 3, tagged(5, 4), tagged(1, 8)),
			"Bot at n":          record(api.TBDD, 8, 8, tagged(5, 9), tagged(1, 9)),
			"Lo's tag above":    record(api.TBDD, 3, 3, tagged(5, 3), tagged(1, 8)),
			"Hi's tag above":    record(api.TBDD, 3, 3, tagged(5, 4), tagged(1, 3)),
			"Lo's tag below":    record(api.TBDD, 3, 3, tagged(5, 9), tagged(1, 8)),
			"Hi's tag below":    record(api.TBDD, 3, 3, tagged(5, 4), tagged(1, 9)),
			"Lo has no tag":     record(api.TBDD, 3, 3, at(5), tagged(1, 8)),
			"Hi has no tag":     record(api.TBDD, 3, 3, tagged(5, 4), at(1)),
			"Lo nothing tagged": record(api.TBDD, 3, 3, tagged(0, 4), tagged(1, 8)),
			"Hi nothing tagged": record(api.TBDD, 3, 3, tagged(5, 4), tagged(0, 8)),
			"alike":             record(api.TBDD, 3, 3, tagged(5, 4), tagged(5, 4)),
			"both nothing":      record(api.TBDD, 3, 3, at(0), at(0)),
		}},
	}
}

func TestRightOfSingleConditions(t *testing.T) { // P10.1: what falls short of one condition is wrong
	for _, s := range shorts() {
		if !Right(s.right, s.n) {
			t.Errorf("%d variables: %v isn't right", s.n, s.right)
		}
		for what, r := range s.wrong {
			if Right(r, s.n) {
				t.Errorf("%s: %v is right", what, r)
			}
		}
		for n := s.n; n <= api.MaxVars; n++ {
			if !Right(s.right, n) {
				t.Errorf("%d variables: %v isn't right", n, s.right)
			}
		}
		for n := range int(s.right.Bot) + 1 {
			if Right(s.right, n) {
				t.Errorf("%d variables: %v is right", n, s.right)
			}
		}
		for _, n := range wrongCounts() {
			if Right(s.right, n) {
				t.Errorf("%d variables: %v is right", n, s.right)
			}
		}
		for _, f := range others() {
			r := s.right
			r.Form = f
			if Right(r, s.n) {
				t.Errorf("the form %d: %v is right", f, r)
			}
		}
	}
}

func TestRightOfHalvesThatAreAlike(t *testing.T) { // P10.1: Lo and Hi the same may be of ZDD and CZDD; Hi to nothing of the others
	for _, f := range five {
		zeros := f == api.ZDD || f == api.CZDD
		for _, id := range places()[1:] {
			e := at(id)
			if f == api.TBDD {
				e.Tag = 4
			}
			if Right(record(f, 3, 3, e, e), 8) != zeros {
				t.Errorf("the form %d, twice %v: %v", f, e, !zeros)
			}
			if Right(record(f, 3, 3, e, api.Edge{}), 8) == zeros {
				t.Errorf("the form %d, %v and nothing: %v", f, e, zeros)
			}
			if !Right(record(f, 3, 3, api.Edge{}, e), 8) {
				t.Errorf("the form %d, nothing and %v: false", f, e)
			}
		}
		if Right(record(f, 3, 3, api.Edge{}, api.Edge{}), 8) {
			t.Errorf("the form %d, twice nothing: true", f)
		}
	}
	if !Right(record(api.TBDD, 3, 3, tagged(5, 4), tagged(5, 6)), 8) || !Right(record(api.TBDD, 3, 3, tagged(5, 7), tagged(6, 7)), 8) {
		t.Error("tbdd: edges that differ in a Tag, or in At, alone aren't right")
	}
}

func TestRightOfLevels(t *testing.T) { // P10.1: Top and Bot alike, one apart, at n - 1, at n, at their greatest values, under every n
	levels := []int{0, 1, 2, 3, 7, 8, 14, 15, 16, 17, 127, 128, 254, 255}
	counts := append([]int{0, 1, 2, 3, 4, 8, 9, 14, 15, 16}, wrongCounts()...)
	for _, f := range forms() {
		for _, n := range counts {
			for _, bot := range levels {
				for _, top := range []int{0, 1, bot - 2, bot - 1, bot, bot + 1, bot + 2, 255} {
					if top < 0 || top > 255 {
						continue
					}
					hi := at(2)
					if f == api.TBDD {
						hi.Tag = uint8(min(bot+1, 255))
					}
					r := record(f, uint8(top), uint8(bot), api.Edge{}, hi)
					want := f >= 1 && f <= 5 && 0 <= n && n <= 16 && bot < n && (top == bot || top < bot && (f == api.CBDD || f == api.CZDD))
					if Right(r, n) != want {
						t.Errorf("Right(%v, %d): %v", r, n, !want)
					}
				}
			}
		}
	}
}

func TestRightOfNoVariables(t *testing.T) { // P10.1: there is no node
	for _, f := range forms() {
		for _, tag := range []uint8{0, 1, 255} {
			for _, bot := range []uint8{0, 1, 255} {
				if r := record(f, 0, bot, at(0), tagged(1, tag)); Right(r, 0) {
					t.Errorf("%v is right", r)
				}
			}
		}
	}
}

func TestRightOfLastLevel(t *testing.T) { // P10.1: below the level n - 1 a Tag is n
	for n := 1; n <= api.MaxVars; n++ {
		last := uint8(n - 1)
		for _, f := range five {
			one := One(f, n)
			if !Right(record(f, last, last, api.Edge{}, one), n) {
				t.Errorf("the form %d, of %d variables: nothing and one aren't right", f, n)
			}
			if Right(record(f, last+1, last+1, api.Edge{}, one), n) {
				t.Errorf("the form %d, of %d variables: the level n is right", f, n)
			}
			if n > 1 && Right(record(f, 0, last, api.Edge{}, one), n) != (f == api.CBDD || f == api.CZDD) {
				t.Errorf("the form %d, of %d variables: all levels in one: %v", f, n, f != api.CBDD && f != api.CZDD)
			}
		}
		if Right(record(api.TBDD, last, last, api.Edge{}, tagged(1, last)), n) || Right(record(api.TBDD, last, last, api.Edge{}, tagged(1, last+2)), n) {
			t.Errorf("tbdd, of %d variables: a Tag beside n is right", n)
		}
	}
}

func TestRightOfMany(t *testing.T) { // P10.1: each choice of parts from their ends, against the chapter's Words
	edges := []api.Edge{}
	for _, id := range []uint32{0, 1, 2, 3, math.MaxUint32} {
		for _, tag := range []uint8{0, 1, 2, 3, 4, 255} {
			edges = append(edges, tagged(id, tag))
		}
	}
	right := make([]int, 6)
	for _, f := range []api.Form{0, 1, 2, 3, 4, 5, 6, 255} {
		for _, top := range []uint8{0, 1, 2, 3, 4, 255} {
			for _, bot := range []uint8{0, 1, 2, 3, 4, 255} {
				for _, lo := range edges {
					for _, hi := range edges {
						r := record(f, top, bot, lo, hi)
						for _, n := range []int{-1, 0, 1, 2, 3, 4, 16, 17} {
							want := wantedRight(r, n)
							if Right(r, n) != want {
								t.Fatalf("Right(%v, %d): %v", r, n, !want)
							}
							if want {
								right[f]++
							}
						}
					}
				}
			}
		}
	}
	for _, f := range five {
		if right[f] < 100 {
			t.Errorf("of the form %d just %d are right", f, right[f])
		}
	}
}

func TestRightOfDrawn(t *testing.T) { // P10.1: drawn records, nearly right ones among them
	source := rand.New(rand.NewSource(10))
	count := 0
	for range 400000 {
		n := source.Intn(19) - 1
		r := drawn(source, max(n, 1))
		want := wantedRight(r, n)
		if Right(r, n) != want {
			t.Fatalf("Right(%v, %d): %v", r, n, !want)
		}
		for _, e := range []api.Edge{r.Lo, r.Hi} {
			for _, l := range []int{int(r.Bot) + 1, int(r.Top), source.Intn(20) - 1} {
				if Plain(r.Form, e, l, n) != wantedPlain(r.Form, e, l, n) {
					t.Fatalf("Plain(%d, %v, %d, %d): %v", r.Form, e, l, n, Plain(r.Form, e, l, n))
				}
			}
		}
		if want {
			count++
		}
	}
	if count < 40000 {
		t.Errorf("just %d drawn ones are right", count)
	}
}

// drawn: a record that is often right for n, and now and then far from it.
func drawn(source *rand.Rand, n int) api.Record {
	if source.Intn(20) == 0 {
		return record(api.Form(source.Intn(256)), uint8(source.Intn(256)), uint8(source.Intn(256)), tagged(source.Uint32(), uint8(source.Intn(256))), tagged(source.Uint32(), uint8(source.Intn(256))))
	}
	r := api.Record{Form: five[source.Intn(5)], Bot: uint8(source.Intn(n + 1))}
	r.Top = r.Bot
	if source.Intn(3) == 0 {
		r.Top = uint8(source.Intn(n + 1))
	}
	for _, e := range []*api.Edge{&r.Lo, &r.Hi} {
		e.At = uint32(source.Intn(6))
		if r.Form == api.TBDD && e.At != 0 {
			e.Tag = r.Bot + 1 + uint8(source.Intn(max(1, n-int(r.Bot))))
		}
		if source.Intn(20) == 0 {
			e.Tag = uint8(source.Intn(n + 3))
		}
	}
	return r
}

func TestOne(t *testing.T) { // P10.1: At 1, of a TBDD with the Tag n
	for n := range api.MaxVars + 1 {
		for _, f := range five {
			want := api.Edge{At: 1}
			if f == api.TBDD {
				want.Tag = uint8(n)
			}
			if e := One(f, n); e != want {
				t.Errorf("One(%d, %d): %v", f, n, e)
			}
			if !Plain(f, One(f, n), n, n) {
				t.Errorf("One(%d, %d) isn't plain at the level %d", f, n, n)
			}
		}
	}
	if e := One(api.TBDD, 0); e != at(1) {
		t.Errorf("One of tbdd, of no variables: %v", e)
	}
	if e := One(api.TBDD, 16); e != tagged(1, 16) {
		t.Errorf("One of tbdd, of 16: %v", e)
	}
}

func TestOneOfWrong(t *testing.T) { // P10.1: Edge{} of what is no form, of an n that can't be
	for _, f := range others() {
		for n := range api.MaxVars + 1 {
			if e := One(f, n); e != (api.Edge{}) {
				t.Errorf("One(%d, %d): %v", f, n, e)
			}
		}
		for _, n := range wrongCounts() {
			if e := One(f, n); e != (api.Edge{}) {
				t.Errorf("One(%d, %d): %v", f, n, e)
			}
		}
	}
	for _, f := range five {
		for _, n := range wrongCounts() {
			if e := One(f, n); e != (api.Edge{}) {
				t.Errorf("One(%d, %d): %v", f, n, e)
			}
		}
	}
}

func TestText(t *testing.T) { // P10.2: each name, Tags of 0 and others, the greatest numbers, the chapter's example
	for _, c := range []struct {
		r    api.Record
		want string
	}{
		{record(api.CBDD, 1, 3, at(4), at(1)), "cbdd 1:3 4 1"},
		{record(api.BDD, 0, 0, at(0), at(1)), "bdd 0:0 0 1"},
		{record(api.ZDD, 10, 10, at(12), at(345)), "zdd 10:10 12 345"},
		{record(api.CZDD, 0, 15, at(1), at(1)), "czdd 0:15 1 1"},
		{record(api.TBDD, 2, 2, tagged(5, 3), tagged(1, 4)), "tbdd 2:2 5@3 1@4"},
		{record(api.TBDD, 2, 2, tagged(5, 3), at(0)), "tbdd 2:2 5@3 0"},
		{record(api.TBDD, 2, 2, at(0), tagged(1, 16)), "tbdd 2:2 0 1@16"},
		{record(api.TBDD, 255, 255, tagged(math.MaxUint32, 255), tagged(math.MaxUint32, 255)), "tbdd 255:255 4294967295@255 4294967295@255"},
		{record(api.BDD, 255, 0, at(math.MaxUint32), at(1<<31)), "bdd 255:0 4294967295 2147483648"},
		// Records that aren't right have texts, too.
		{record(api.ZDD, 3, 1, tagged(0, 1), tagged(0, 10)), "zdd 3:1 0@1 0@10"},
		{record(api.CBDD, 7, 8, tagged(9, 100), at(10)), "cbdd 7:8 9@100 10"},
	} {
		if s := Text(c.r); s != c.want {
			t.Errorf("Text(%v): %q, not %q", c.r, s, c.want)
		}
	}
}

func TestTextOfOtherForms(t *testing.T) { // P10.2: the name of another one is none
	for _, f := range others() {
		if s := Text(record(f, 1, 3, at(4), tagged(1, 2))); s != "none 1:3 4 1@2" {
			t.Errorf("Text of the form %d: %q", f, s)
		}
	}
	if s := Text(api.Record{}); s != "none 0:0 0 0" {
		t.Errorf("Text of the record of noughts: %q", s)
	}
}

func TestTextOfNumbers(t *testing.T) { // P10.2: each number of 8 bits at each place, and At of each length
	for x := range 256 {
		k := uint8(x)
		for _, r := range []api.Record{
			record(api.CZDD, k, 7, at(1), at(2)), record(api.CZDD, 7, k, at(1), at(2)),
			record(api.TBDD, 7, 7, tagged(1, k), at(2)), record(api.TBDD, 7, 7, at(1), tagged(2, k)),
		} {
			if s := Text(r); s != wantedText(r) {
				t.Errorf("Text(%v): %q", r, s)
			}
		}
	}
	for id := uint64(1); id <= math.MaxUint32; id *= 10 {
		for _, near := range []uint64{id - 1, id, id + 1} {
			r := record(api.BDD, 1, 1, at(uint32(near)), at(uint32(near/3)))
			if s := Text(r); s != wantedText(r) {
				t.Errorf("Text(%v): %q", r, s)
			}
		}
	}
}

// read a record from its text, if it is one.
func read(t *testing.T, f api.Form, s string) api.Record {
	t.Helper()
	number := func(s string, size int) uint64 {
		x, err := strconv.ParseUint(s, 10, size)
		if err != nil || strconv.FormatUint(x, 10) != s {
			t.Fatalf("%q is no number of %d bits", s, size)
		}
		return x
	}
	edge := func(s string) api.Edge {
		id, tag, has := strings.Cut(s, "@")
		if !has {
			return at(uint32(number(id, 32)))
		}
		return tagged(uint32(number(id, 32)), uint8(number(tag, 8)))
	}
	words := strings.Split(s, " ")
	if len(words) != 4 {
		t.Fatalf("%q: %d words", s, len(words))
	}
	top, bot, _ := strings.Cut(words[1], ":")
	return record(f, uint8(number(top, 8)), uint8(number(bot, 8)), edge(words[2]), edge(words[3]))
}

func TestTextTellsTheRecord(t *testing.T) { // P10.3: a text and a form are those of one record
	source := rand.New(rand.NewSource(103))
	for range 100000 {
		r := drawn(source, 16)
		if source.Intn(2) == 0 {
			r = record(five[source.Intn(5)], uint8(source.Intn(256)), uint8(source.Intn(256)), tagged(source.Uint32()>>source.Intn(32), uint8(source.Intn(256))), tagged(source.Uint32()>>source.Intn(32), uint8(source.Intn(256))))
		}
		if back := read(t, r.Form, Text(r)); back != r {
			t.Fatalf("Text(%v): %q, that of %v", r, Text(r), back)
		}
	}
}

func TestSameTexts(t *testing.T) { // P10.3: records of a form whose texts are the same are the same
	type told struct {
		form api.Form
		text string
	}
	numbers := []uint8{0, 1, 2, 10, 11, 12, 21, 110, 111, 112, 211, 255}
	ids := []uint32{0, 1, 2, 11, 12, 21, 111, 1111, math.MaxUint32}
	for _, f := range []api.Form{0, 1, 3, 5, 6} {
		seen := map[told]api.Record{}
		look := func(r api.Record) {
			key := told{r.Form, Text(r)}
			if old, has := seen[key]; has && old != r {
				t.Fatalf("%v and %v: %q", old, r, key.text)
			}
			seen[key] = r
		}
		for _, top := range numbers {
			for _, bot := range numbers {
				for _, lo := range ids {
					for _, hi := range ids {
						look(record(f, top, bot, at(lo), at(hi)))
						look(record(f, top, bot, tagged(lo, top), at(hi)))
						look(record(f, top, bot, at(lo), tagged(hi, bot)))
						look(record(f, 1, 1, tagged(lo, top), tagged(hi, bot)))
					}
				}
			}
		}
		if len(seen) < 40000 {
			t.Errorf("just %d texts", len(seen))
		}
	}
}

func TestTextsOfUnlikeForms(t *testing.T) { // P10.3: the texts of the five have unlike names; of other forms they are the same
	r := record(0, 1, 2, at(3), at(4))
	seen := map[string]api.Form{}
	for _, f := range append([]api.Form{0}, five...) {
		r.Form = f
		if old, has := seen[Text(r)]; has {
			t.Errorf("the forms %d and %d: %q", old, f, Text(r))
		}
		seen[Text(r)] = f
	}
	a, b := record(0, 1, 2, at(3), at(4)), record(6, 1, 2, at(3), at(4))
	if Text(a) != Text(b) || a == b {
		t.Errorf("two forms that are none: %q, %q", Text(a), Text(b))
	}
}

func TestHashOfTheSame(t *testing.T) { // P10.2, R6: hangs on the record alone
	source := rand.New(rand.NewSource(102))
	var records []api.Record
	var hashes []uint64
	for range 10000 {
		r := drawn(source, 16)
		records = append(records, r)
		hashes = append(hashes, Key{r}.Hash())
	}
	for i, r := range records {
		again := record(r.Form, r.Top, r.Bot, tagged(r.Lo.At, r.Lo.Tag), tagged(r.Hi.At, r.Hi.Tag))
		k := Key{R: again}
		if k.Hash() != hashes[i] || k != (Key{r}) || k.R != r {
			t.Fatalf("Hash of %v: %d, then %d", r, hashes[i], k.Hash())
		}
	}
	if (Key{}).Hash() != (Key{api.Record{}}).Hash() {
		t.Error("Hash of the record of noughts")
	}
}

// changes: the record with one part alone another one, each part by each of its bits.
func changes(r api.Record) map[string]api.Record {
	l := map[string]api.Record{}
	for bit := range 8 {
		for i, part := range []string{"Form", "Top", "Bot", "Lo.Tag", "Hi.Tag"} {
			c := r
			*[]*uint8{(*uint8)(&c.Form), &c.Top, &c.Bot, &c.Lo.Tag, &c.Hi.Tag}[i] ^= 1 << bit
			l[fmt.Sprint(part, " bit ", bit)] = c
		}
	}
	for bit := range 32 {
		c := r
		c.Lo.At ^= 1 << bit
		l[fmt.Sprint("Lo.At bit ", bit)] = c
		c = r
		c.Hi.At ^= 1 << bit
		l[fmt.Sprint("Hi.At bit ", bit)] = c
	}
	return l
}

func TestHashOfEachPart(t *testing.T) { // P10.2: hangs on each part of the record
	bases := []api.Record{{}, record(255, 255, 255, tagged(math.MaxUint32, 255), tagged(math.MaxUint32, 255))}
	for _, s := range shorts() {
		bases = append(bases, s.right)
	}
	for _, r := range bases {
		hash := Key{r}.Hash()
		c := changes(r)
		if len(c) != 5*8+2*32 {
			t.Fatalf("%d changes", len(c))
		}
		for what, other := range c {
			if (Key{other}).Hash() == hash {
				t.Errorf("%v, %s: Hash is the same, %d", r, what, hash)
			}
		}
	}
}

func TestHashOfPartsExchanged(t *testing.T) { // P10.2: hangs on which part has a value, not on the values alone
	for _, r := range []api.Record{record(api.TBDD, 2, 5, tagged(7, 6), tagged(9, 8)), record(api.CZDD, 1, 3, at(4), at(2))} {
		edges, ats, tags, levels := r, r, r, r
		edges.Lo, edges.Hi = r.Hi, r.Lo
		ats.Lo.At, ats.Hi.At = r.Hi.At, r.Lo.At
		tags.Lo.Tag, tags.Hi.Tag = r.Hi.Tag, r.Lo.Tag
		levels.Top, levels.Bot = r.Bot, r.Top
		for _, other := range []api.Record{edges, ats, tags, levels} {
			if other != r && (Key{other}).Hash() == (Key{r}).Hash() {
				t.Errorf("%v and %v: Hash is the same", r, other)
			}
		}
	}
}

// manyRecords: unlike records as a store has them, those of each form with ids close to each other.
func manyRecords() []api.Record {
	var l []api.Record
	for _, f := range five {
		for top := range uint8(16) {
			for lo := range uint32(40) {
				for hi := range uint32(40) {
					l = append(l, record(f, top, top, at(lo), at(hi)))
				}
			}
		}
	}
	return l
}

func TestHashesAreUnlike(t *testing.T) { // P10.2: unlike records have unlike hashes, but for few; their lowest and highest bits do, too
	records := manyRecords()
	seen := make(map[uint64]bool, len(records))
	const places = 1 << 12
	low, high := make([]int, places), make([]int, places)
	for _, r := range records {
		hash := Key{r}.Hash()
		seen[hash] = true
		low[hash%places]++
		high[hash>>52]++
	}
	if len(seen) < len(records)-2 {
		t.Errorf("%d records have %d hashes", len(records), len(seen))
	}
	// In the mean 31 are in a place.
	for i := range places {
		if low[i] < 5 || low[i] > 80 || high[i] < 5 || high[i] > 80 {
			t.Errorf("place %d: %d by the lowest bits, %d by the highest ones", i, low[i], high[i])
		}
	}
}

func TestHashHangsOnEachBit(t *testing.T) { // P10.2: a bit of the record that is another one changes about half of the hash
	source := rand.New(rand.NewSource(64))
	count, changed := 0, 0
	for range 1000 {
		r := drawn(source, 16)
		for what, other := range changes(r) {
			unlike := bits.OnesCount64(Key{other}.Hash() ^ Key{r}.Hash())
			if unlike < 4 {
				t.Errorf("%v, %s: just %d bits of the hash are others", r, what, unlike)
			}
			count, changed = count+1, changed+unlike
		}
	}
	if changed < 28*count || changed > 36*count {
		t.Errorf("%d bits changed by %d changes", changed, count)
	}
}

func TestKeyIsOneOfIndex(t *testing.T) { // P10.2: records are found by keys, each by its own alone
	numbers := index.New[Key]()
	answers, _ := cache.New[Key, int](6)
	records := manyRecords()[:20000]
	for i, r := range records {
		if _, had := numbers.Put(Key{r}, uint32(i)); had {
			t.Fatalf("%v has a number", r)
		}
		answers.Put(Key{r}, i)
		if got, ok := answers.Get(Key{r}); got != i || !ok {
			t.Fatalf("%v: %d, %v, not %d", r, got, ok, i)
		}
	}
	for i, r := range records {
		if id, ok := numbers.Get(Key{r}); id != uint32(i) || !ok {
			t.Errorf("%v: %d, %v, not %d", r, id, ok, i)
		}
		r.Hi.Tag = 200
		if id, ok := numbers.Get(Key{r}); id != 0 || ok {
			t.Errorf("%v: %d, %v", r, id, ok)
		}
	}
}

func TestNothingPanics(t *testing.T) { // R1, R6: all calls, at drawn arguments of any kind, and the same again
	source := rand.New(rand.NewSource(1))
	counts := append(wrongCounts(), 0, 1, 2, 15, 16)
	number := func() int {
		if source.Intn(2) == 0 {
			return counts[source.Intn(len(counts))]
		}
		return int(source.Uint64())
	}
	edge := func() api.Edge {
		return tagged(places()[source.Intn(len(places()))], uint8(source.Intn(256)))
	}
	for range 200000 {
		f, l, n := api.Form(source.Intn(256)), number(), number()
		r := record(f, uint8(source.Intn(256)), uint8(source.Intn(256)), edge(), edge())
		first := []any{IsForm(f), Chained(f), Plain(f, r.Lo, l, n), Right(r, n), One(f, n), Key{r}.Hash(), Text(r)}
		again := []any{IsForm(f), Chained(f), Plain(f, r.Lo, l, n), Right(r, n), One(f, n), Key{r}.Hash(), Text(r)}
		for i := range first {
			if first[i] != again[i] {
				t.Fatalf("%v, %d, %d: %v, then %v", r, l, n, first[i], again[i])
			}
		}
		if first[3] != wantedRight(r, n) || first[2] != wantedPlain(f, r.Lo, l, n) {
			t.Fatalf("%v, %d, %d: Right %v, Plain %v", r, l, n, first[3], first[2])
		}
	}
}
