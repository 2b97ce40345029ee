package rule_test

import (
	"math"
	"math/rand"
	"slices"
	"testing"

	"telltale/api"
	"telltale/rule"
)

const (
	no   = api.False
	yes  = api.True
	open = api.Unknown
)

func above(ch, n int) api.Term { return api.Term{Op: api.Above, Ch: ch, N: n} }

func below(ch, n int) api.Term { return api.Term{Op: api.Below, Ch: ch, N: n} }

func op(n int) api.Term { return api.Term{Op: n} }

func of(terms ...api.Term) api.Rule { return api.Rule{Terms: terms, Hold: 1} }

func val(v int) api.Cell { return api.Cell{Kind: api.Val, V: v, From: 9} }

func none(kind int) api.Cell { return api.Cell{Kind: kind} }

func checkSays(t *testing.T, r api.Rule, cells []api.Cell, want int) {
	t.Helper()
	if !rule.Right(r, len(cells)) {
		t.Errorf("Right(%v, %d) is false", r, len(cells))
	}
	if got := rule.Says(r, cells); got != want {
		t.Errorf("Says(%v, %v) = %d; want %d", r, cells, got, want)
	}
}

// P18.1: the example, above 5, of 6; just the limit is neither above nor below.
func TestLimits(t *testing.T) {
	for _, c := range []struct{ v, n, above, below int }{{6, 5, yes, no}, {5, 5, no, no}, {4, 5, no, yes}, {-6, -5, no, yes}, {-5, -5, no, no}, {-4, -5, yes, no}, {0, 0, no, no}, {32767, 1 << 31, no, yes}, {-32768, -1 << 31, yes, no}} {
		checkSays(t, of(above(0, c.n)), []api.Cell{val(c.v)}, c.above)
		checkSays(t, of(below(0, c.n)), []api.Cell{val(c.v)}, c.below)
	}
	for _, kind := range []int{api.Missing, api.Unsync, api.Restart} {
		for _, n := range []int{-1, 0, 1} {
			checkSays(t, of(above(0, n)), []api.Cell{none(kind)}, open)
			checkSays(t, of(below(0, n)), []api.Cell{none(kind)}, open)
		}
	}
	// A limit is one of its own channel.
	cells := []api.Cell{val(1), val(9), none(api.Missing)}
	checkSays(t, of(above(0, 5)), cells, no)
	checkSays(t, of(above(1, 5)), cells, yes)
	checkSays(t, of(above(2, 5)), cells, open)
}

// P18.1: And, Or and Not of all truths.
func TestOps(t *testing.T) {
	cells := []api.Cell{val(1), val(9), none(api.Unsync)}
	limit := map[int]api.Term{no: above(0, 5), yes: above(1, 5), open: above(2, 5)}
	for _, c := range [][4]int{{no, no, no, no}, {no, yes, no, yes}, {no, open, no, open}, {yes, yes, yes, yes}, {yes, open, open, yes}, {open, open, open, open}} {
		a, b := limit[c[0]], limit[c[1]]
		for range 2 {
			checkSays(t, of(a, b, op(api.And)), cells, c[2])
			checkSays(t, of(a, b, op(api.Or)), cells, c[3])
			a, b = b, a
		}
	}
	checkSays(t, of(limit[no], op(api.Not)), cells, yes)
	checkSays(t, of(limit[yes], op(api.Not)), cells, no)
	checkSays(t, of(limit[open], op(api.Not)), cells, open)
	// Not takes what was put last, And what was put by the two last.
	checkSays(t, of(limit[no], limit[no], op(api.Not), op(api.Or)), cells, yes)
	checkSays(t, of(limit[no], limit[yes], op(api.Not), op(api.Or)), cells, no)
	checkSays(t, of(limit[yes], limit[no], limit[no], op(api.And), op(api.Or)), cells, yes)
	checkSays(t, of(limit[yes], limit[no], op(api.And), limit[no], op(api.Or)), cells, no)
}

// P18.1: which rules may not be so.
func TestRight(t *testing.T) {
	full := func(many int) []api.Term { // a limit, and so many terms more
		return append([]api.Term{above(0, 1)}, slices.Repeat([]api.Term{op(api.Not)}, many)...)
	}
	hold := func(n int) api.Rule { return api.Rule{Terms: full(0), Hold: n} }
	for i, c := range []struct {
		r    api.Rule
		n    int
		want bool
	}{
		{hold(1), 1, true}, {hold(1000), 1, true}, {hold(0), 1, false}, {hold(1001), 1, false}, {hold(-1), 1, false}, {hold(math.MaxInt), 1, false}, {hold(math.MinInt), 1, false},
		{api.Rule{Terms: full(0), Hold: 1, Latch: true}, 1, true},
		{of(), 1, false},
		{of(full(15)...), 1, true}, {of(full(16)...), 1, false}, {of(full(30)...), 1, false},
		{of(above(0, 0)), 0, false}, {of(above(0, 0)), -1, false}, {of(above(0, 0)), 1, true}, {of(above(1, 0)), 1, false}, {of(above(15, 0)), 16, true}, {of(above(16, 0)), 16, false}, {of(above(-1, 0)), 16, false},
		{of(below(0, 0)), 0, false}, {of(below(1, 0)), 1, false}, {of(below(15, 0)), 16, true}, {of(below(16, 0)), 16, false}, {of(below(-1, 0)), 16, false},
		{of(above(math.MaxInt, 0)), 16, false}, {of(above(math.MinInt, 0)), 16, false}, {of(above(1<<40, 0)), math.MaxInt, true},
		{of(above(0, 1<<31)), 1, true}, {of(above(0, 1<<31+1)), 1, false}, {of(above(0, -1<<31)), 1, true}, {of(above(0, -1<<31-1)), 1, false},
		{of(below(0, 1<<31)), 1, true}, {of(below(0, 1<<31+1)), 1, false}, {of(below(0, -1<<31)), 1, true}, {of(below(0, -1<<31-1)), 1, false},
		{of(above(0, math.MinInt)), 1, false}, {of(above(0, math.MaxInt)), 1, false},
		{of(op(0)), 1, false}, {of(op(6)), 1, false}, {of(op(-1)), 1, false}, {of(op(math.MinInt)), 1, false}, {of(above(0, 1), op(6)), 1, false}, {of(above(0, 1), op(0)), 1, false},
		{of(op(api.Not)), 1, false}, {of(op(api.And)), 1, false}, {of(op(api.Or)), 1, false},
		{of(above(0, 1), op(api.And)), 1, false}, {of(above(0, 1), op(api.Or)), 1, false},
		{of(above(0, 1), above(0, 1)), 1, false}, {of(above(0, 1), above(0, 1), op(api.Not)), 1, false},
		{of(above(0, 1), below(0, 1), op(api.And)), 1, true}, {of(above(0, 1), below(0, 1), op(api.Or)), 1, true},
		{of(above(0, 1), below(0, 1), above(0, 2), op(api.And)), 1, false},
		{of(above(0, 1), op(api.And), below(0, 1)), 1, false},
		{of(above(0, 1), op(api.Not), op(api.And), below(0, 1), below(0, 1)), 1, false},
		{of(op(api.Not), above(0, 1)), 1, false},
		{of(above(0, 1), api.Term{Op: api.Not, Ch: 1}), 2, false}, {of(above(0, 1), api.Term{Op: api.Not, N: 1}), 2, false},
		{of(above(0, 1), above(0, 1), api.Term{Op: api.And, Ch: 1}), 2, false}, {of(above(0, 1), above(0, 1), api.Term{Op: api.And, N: -1}), 2, false},
		{of(above(0, 1), above(0, 1), api.Term{Op: api.Or, Ch: -1}), 2, false}, {of(above(0, 1), above(0, 1), api.Term{Op: api.Or, N: 5}), 2, false},
	} {
		if got := rule.Right(c.r, c.n); got != c.want {
			t.Errorf("%d: Right(%v, %d) = %v", i, c.r, c.n, got)
		}
	}
}

// tree is a rule's truth as a formula.
type tree struct {
	term api.Term
	kids []tree
}

func (f tree) terms() []api.Term {
	var l []api.Term
	for _, kid := range f.kids {
		l = append(l, kid.terms()...)
	}
	return append(l, f.term)
}

// truth is what the formula says, by truths that are rows of what may be.
func (f tree) truth(cells []api.Cell) int {
	switch f.term.Op {
	case api.Not:
		return [4]int{0, yes, no, open}[f.kids[0].truth(cells)]
	case api.And, api.Or:
		a, b := f.kids[0].truth(cells), f.kids[1].truth(cells)
		strong := no
		if f.term.Op == api.Or {
			strong = yes
		}
		if a == strong || b == strong {
			return strong
		}
		return max(a, b) // Unknown is the greatest of those that are left
	}
	c := cells[f.term.Ch]
	if c.Kind != api.Val {
		return open
	}
	if f.term.Op == api.Above && c.V > f.term.N || f.term.Op == api.Below && c.V < f.term.N {
		return yes
	}
	return no
}

func randomTree(rnd *rand.Rand, n, deep int) tree {
	switch {
	case deep == 0 || rnd.Intn(4) == 0:
		return tree{term: api.Term{Op: 1 + rnd.Intn(2), Ch: rnd.Intn(n), N: rnd.Intn(7) - 3}}
	case rnd.Intn(3) == 0:
		return tree{op(api.Not), []tree{randomTree(rnd, n, deep-1)}}
	}
	return tree{op(api.And + rnd.Intn(2)), []tree{randomTree(rnd, n, deep-1), randomTree(rnd, n, deep-1)}}
}

func randomCells(rnd *rand.Rand, n int) []api.Cell {
	cells := make([]api.Cell, n)
	for i := range cells {
		cells[i] = none(2 + rnd.Intn(3))
		if rnd.Intn(2) == 0 {
			cells[i] = val(rnd.Intn(9) - 4)
		}
	}
	return cells
}

// P18.1, P18.2, P18.3: formulas of all kinds; what is known stays so, whatever stands where there is none, and in other channels.
func TestFormulas(t *testing.T) {
	rnd := rand.New(rand.NewSource(1))
	says := map[int]int{}
	for range 6000 {
		n := 1 + rnd.Intn(4)
		f := randomTree(rnd, n, 3)
		r := of(f.terms()...)
		if len(r.Terms) > 16 {
			continue
		}
		cells := randomCells(rnd, n)
		want := f.truth(cells)
		checkSays(t, r, cells, want)
		says[want]++
		for range 5 {
			other := slices.Clone(cells)
			for ch := range other {
				if other[ch].Kind != api.Val && rnd.Intn(3) > 0 {
					other[ch] = val(rnd.Intn(9) - 4)
				}
			}
			if got := rule.Says(r, other); want != open && got != want {
				t.Fatal(r, cells, want, other, got)
			}
		}
		channels := rule.Channels(r)
		other := randomCells(rnd, n)
		for _, ch := range channels {
			other[ch] = cells[ch]
		}
		if got := rule.Says(r, other); got != want {
			t.Fatal(r, cells, want, other, got, channels)
		}
	}
	if says[no] < 100 || says[yes] < 100 || says[open] < 100 {
		t.Error("too few to say", says)
	}
}

// P18.1: which cell it was, and whether the rule holds or latches, does not matter to what it says.
func TestSaysHangsOnTermsAlone(t *testing.T) {
	r := api.Rule{Terms: []api.Term{above(0, 5)}, Hold: 900, Latch: true}
	checkSays(t, r, []api.Cell{{Kind: api.Val, V: 6, From: 1 << 40}}, yes)
	checkSays(t, r, []api.Cell{{Kind: api.Val, V: 6}}, yes)
}

// P18.1: the channels of limits, rising, each once, of any rule.
func TestChannels(t *testing.T) {
	for _, c := range []struct {
		r    api.Rule
		want []int
	}{
		{api.Rule{}, nil},
		{of(op(api.Not), op(api.And), op(api.Or)), nil},
		{of(above(3, 1)), []int{3}},
		{of(above(3, 1), below(1, 1), above(2, 0), below(3, 9), above(1, 1)), []int{1, 2, 3}},
		{of(above(0, 1), api.Term{Op: api.Not, Ch: 7}, api.Term{Op: api.And, Ch: 8}, api.Term{Op: api.Or, Ch: 9}, api.Term{Op: 6, Ch: 10}, api.Term{Op: 0, Ch: 11}, api.Term{Op: -1, Ch: 12}), []int{0}},
		{of(below(-5, 1), above(math.MaxInt, 1), below(math.MinInt, 1), above(-5, 2), below(900, 0)), []int{math.MinInt, -5, 900, math.MaxInt}},
		{of(slices.Repeat([]api.Term{above(4, 1), below(2, 1)}, 30)...), []int{2, 4}},
	} {
		if got := rule.Channels(c.r); !slices.Equal(got, c.want) {
			t.Errorf("Channels(%v) = %v", c.r, got)
		}
	}
}

// P3: what is handed in stays as it was, and what comes out is new memory.
func TestNewMemory(t *testing.T) {
	terms := []api.Term{above(3, 1), below(1, 1), op(api.And), above(9, 9), above(9, 9)}
	before := slices.Clone(terms)
	r := of(terms[:3]...)
	cells := []api.Cell{val(1), val(2), val(3), val(4), val(5)}
	cellsBefore := slices.Clone(cells)
	for range 2 {
		if !rule.Right(r, 4) || rule.Says(r, cells[:4]) != no {
			t.Error("told otherwise")
		}
		l := rule.Channels(r)
		if !slices.Equal(l, []int{1, 3}) {
			t.Error(l)
		}
		l = l[:cap(l)]
		for i := range l {
			l[i] = 77
		}
	}
	if !slices.Equal(terms, before) || !slices.Equal(cells, cellsBefore) {
		t.Error(terms, cells)
	}
}
