package alarm_test

import (
	"math"
	"math/rand"
	"slices"
	"testing"

	"telltale/alarm"
	"telltale/api"
	"telltale/phys"
	"telltale/rule"
	"telltale/tech"
)

func above(ch, n int) api.Term { return api.Term{Op: api.Above, Ch: ch, N: n} }

func of(hold int, latch bool, terms ...api.Term) api.Rule {
	return api.Rule{Terms: terms, Hold: hold, Latch: latch}
}

func val(v int) api.Cell { return api.Cell{Kind: api.Val, V: v, From: 9} }

func none(kind int) api.Cell { return api.Cell{Kind: kind} }

// usual has three channels.
func usual(rules ...api.Rule) api.Conf {
	return api.Conf{Period: 10, Horizon: 4, Cap: 16, Min: 1, Max: 15, Rho: 100, Bound: 40, Window: 64, Stale: 2, Steps: [][]int{{10, 20}, {5}}, Rules: rules}
}

// told are written: + On and Now, * On alone, ! Now alone, - neither.
func told(text string) []api.Alarm {
	var l []api.Alarm
	for _, c := range text {
		l = append(l, map[rune]api.Alarm{'+': {On: true, Now: true}, '*': {On: true}, '!': {Now: true}, '-': {}}[c])
	}
	return l
}

func checkTick(t *testing.T, s *alarm.State, cells []api.Cell, rules, channels string) {
	t.Helper()
	r, c := s.Tick(cells)
	if !slices.Equal(r, told(rules)) || !slices.Equal(c, told(channels)) {
		t.Errorf("Tick(%v) = %v, %v; want %s, %s", cells, r, c, rules, channels)
	}
}

// P21.1: settings, how many rules, and rules for as many channels as there are.
func TestRight(t *testing.T) {
	good := of(1, false, above(2, 5))
	for many := range 12 {
		if got := alarm.Right(usual(slices.Repeat([]api.Rule{good}, many)...)); got != (many <= 8) {
			t.Error(many, got)
		}
	}
	for _, bad := range []api.Rule{{}, of(0, false, above(0, 5)), of(1001, false, above(0, 5)), of(1, false), of(1, false, above(3, 5)), of(1, false, above(-1, 5)), of(1, true, above(0, 5), above(0, 5)), of(1, true, api.Term{Op: api.Not})} {
		if alarm.Right(usual(bad)) || alarm.Right(usual(good, bad)) || alarm.Right(usual(bad, good)) || alarm.Right(usual(good, good, good, good, good, good, good, bad)) {
			t.Error(bad)
		}
	}
	wrong := usual(good)
	wrong.Horizon = 0
	if alarm.Right(wrong) || alarm.Right(api.Conf{}) {
		t.Error("a wrong setting")
	}
	wrong = usual()
	wrong.Stale = 1001
	if alarm.Right(wrong) {
		t.Error("a wrong Stale")
	}
	wrong = usual(good)
	wrong.Steps = [][]int{{10, 20}}
	if alarm.Right(wrong) {
		t.Error("a rule of a channel that there is not")
	}
	wrong.Steps = [][]int{{10, 20}, {1, 1, 1, 1}, {1, 1, 1, 1}, {1, 1, 1, 1}, {1}}
	if alarm.Right(wrong) {
		t.Error("too many devices")
	}
	wrong.Steps = [][]int{{1, 1, 1, 1}, {1, 1, 1, 1}, {1, 1, 1, 1}, {1, 1, 1, 1}}
	wrong.Rules = []api.Rule{of(1000, true, above(15, 5))}
	if !alarm.Right(wrong) {
		t.Error("the last of all channels")
	}
}

// P21.1: the example, no rules; no acks of rules that there are not.
func TestNoRules(t *testing.T) {
	s := alarm.New(usual())
	cells := []api.Cell{val(1), none(api.Missing), none(api.Unsync)}
	checkTick(t, s, cells, "", "---")
	checkTick(t, s, cells, "", "-++")
	if s.AckRule(0) || s.AckRule(-1) || !s.AckChannel(0) {
		t.Error("acks")
	}
}

// P21.1: rules hold, latch and are acknowledged; an ack counts at the next tick, and no more.
func TestRules(t *testing.T) {
	s := alarm.New(usual(of(1, false, above(0, 5)), of(2, true, above(1, 5)), of(1, true, above(0, 5), above(1, 5), api.Term{Op: api.And})))
	cells := func(a, b int) []api.Cell { return []api.Cell{val(a), val(b), val(0)} }
	checkTick(t, s, cells(6, 6), "+-+", "---")
	checkTick(t, s, cells(6, 6), "+++", "---")
	if !s.AckRule(1) {
		t.Error("rule 1")
	}
	checkTick(t, s, cells(5, 6), "-+*", "---")
	checkTick(t, s, cells(5, 5), "-**", "---")
	if !s.AckRule(2) {
		t.Error("rule 2")
	}
	checkTick(t, s, cells(5, 5), "-*-", "---")
	if !s.AckRule(1) || !s.AckRule(1) {
		t.Error("twice")
	}
	checkTick(t, s, cells(5, 9), "---", "---")
	checkTick(t, s, cells(5, 9), "-+-", "---")
}

// P21.1: channels are silent, whatever the reason, are heard, and acknowledged.
func TestChannels(t *testing.T) {
	s := alarm.New(usual())
	checkTick(t, s, []api.Cell{none(api.Missing), none(api.Unsync), none(api.Restart)}, "", "---")
	checkTick(t, s, []api.Cell{none(api.Restart), val(0), none(api.Missing)}, "", "+-+")
	if !s.AckChannel(0) {
		t.Error("channel 0")
	}
	checkTick(t, s, []api.Cell{none(api.Missing), none(api.Unsync), val(3)}, "", "+-*")
	checkTick(t, s, []api.Cell{val(0), val(0), val(3)}, "", "--*")
	if !s.AckChannel(2) || !s.AckChannel(1) {
		t.Error("channels 2 and 1")
	}
	checkTick(t, s, []api.Cell{val(0), val(0), none(api.Missing)}, "", "---")
}

// P21.1: of no rule, or channel, of that number an ack is false, and nothing changes.
func TestAckElsewhere(t *testing.T) {
	s := alarm.New(usual(of(1, true, above(0, 5)), of(1, true, above(0, 5))))
	silent := []api.Cell{val(6), none(api.Missing), none(api.Missing)}
	checkTick(t, s, silent, "++", "---")
	checkTick(t, s, silent, "++", "-++")
	for _, n := range []int{-1, -2, 3, 4, 8, 16, math.MinInt, math.MaxInt} {
		if s.AckRule(n) || s.AckChannel(n) {
			t.Error(n)
		}
	}
	if s.AckRule(2) {
		t.Error("two rules")
	}
	checkTick(t, s, []api.Cell{val(5), val(5), val(5)}, "**", "-**")
	for n := range 3 {
		if s.AckRule(n) != (n < 2) || !s.AckChannel(n) {
			t.Error(n)
		}
	}
	checkTick(t, s, []api.Cell{val(5), val(5), val(5)}, "--", "---")
}

// P21.1: cells of another count tell none, and nothing changes, acks too.
func TestOtherCounts(t *testing.T) {
	s := alarm.New(usual(of(1, true, above(0, 5))))
	checkTick(t, s, []api.Cell{val(6), val(6), none(api.Missing)}, "+", "---")
	s.AckRule(0)
	for _, cells := range [][]api.Cell{nil, {}, {val(1)}, {val(1), val(1)}, {val(1), val(1), val(1), val(1)}} {
		r, c := s.Tick(cells)
		if len(r) != 0 || len(c) != 0 {
			t.Error(cells, r, c)
		}
	}
	checkTick(t, s, []api.Cell{val(5), val(6), none(api.Missing)}, "-", "--+")
}

// step is what happens ahead of a tick, and its cells.
type step struct {
	rules, channels []bool
	cells           []api.Cell
}

func randomRule(rnd *rand.Rand, n int) api.Rule {
	terms := []api.Term{{Op: 1 + rnd.Intn(2), Ch: rnd.Intn(n), N: rnd.Intn(5) - 2}}
	for range rnd.Intn(3) {
		terms = append(terms, api.Term{Op: 1 + rnd.Intn(2), Ch: rnd.Intn(n), N: rnd.Intn(5) - 2}, api.Term{Op: api.And + rnd.Intn(2)})
	}
	if rnd.Intn(3) == 0 {
		terms = append(terms, api.Term{Op: api.Not})
	}
	return of(1+rnd.Intn(3), rnd.Intn(2) == 0, terms...)
}

func randomSteps(rnd *rand.Rand, rules, channels int) []step {
	l := make([]step, rnd.Intn(40))
	for i := range l {
		for range rules {
			l[i].rules = append(l[i].rules, rnd.Intn(4) == 0)
		}
		for range channels {
			l[i].channels = append(l[i].channels, rnd.Intn(4) == 0)
			cell := none(2 + rnd.Intn(3))
			if rnd.Intn(5) > 1 {
				cell = val(rnd.Intn(7) - 3)
			}
			l[i].cells = append(l[i].cells, cell)
		}
	}
	return l
}

// play tells all alarms, of rules and of channels, each as a row.
func play(c api.Conf, l []step) (rules, channels [][]api.Alarm) {
	s := alarm.New(c)
	for _, x := range l {
		for n, ack := range x.rules {
			if ack {
				s.AckRule(n)
			}
		}
		for n, ack := range x.channels {
			if ack {
				s.AckChannel(n)
			}
		}
		r, ch := s.Tick(x.cells)
		rules, channels = append(rules, r), append(channels, ch)
	}
	return rules, channels
}

// column is one alarm's row.
func column(l [][]api.Alarm, n int) []api.Alarm {
	var out []api.Alarm
	for _, x := range l {
		out = append(out, x[n])
	}
	return out
}

// P21.2: each alarm is the fold of what its rule says, or of its channel's samples, with its own acks.
func TestFolds(t *testing.T) {
	rnd := rand.New(rand.NewSource(1))
	for range 300 {
		c := usual()
		c.Stale = 1 + rnd.Intn(3)
		for range rnd.Intn(9) {
			c.Rules = append(c.Rules, randomRule(rnd, 3))
		}
		if !alarm.Right(c) {
			t.Fatal(c)
		}
		l := randomSteps(rnd, len(c.Rules), 3)
		rules, channels := play(c, l)
		for n, r := range c.Rules {
			var truths []int
			var acks []bool
			for _, x := range l {
				truths, acks = append(truths, rule.Says(r, x.cells)), append(acks, x.rules[n])
			}
			if got, want := column(rules, n), phys.Steps(r, truths, acks); !slices.Equal(got, want) {
				t.Fatal(r, truths, acks, got, want)
			}
		}
		for ch := range 3 {
			var samples, acks []bool
			for _, x := range l {
				samples, acks = append(samples, x.cells[ch].Kind == api.Val), append(acks, x.channels[ch])
			}
			if got, want := column(channels, ch), tech.Steps(c.Stale, samples, acks); !slices.Equal(got, want) {
				t.Fatal(c.Stale, samples, acks, got, want)
			}
		}
	}
}

// P21.3: no alarm hangs on another one's cells, or acks.
func TestApart(t *testing.T) {
	rnd := rand.New(rand.NewSource(2))
	for range 200 {
		c := usual(of(1+rnd.Intn(2), true, above(0, 0)), of(1, false, above(1, 0)), of(2, true, above(2, 0)))
		l := randomSteps(rnd, 3, 3)
		rules, channels := play(c, l)
		for n := range 3 {
			other := randomSteps(rnd, 3, 3)
			for len(other) < len(l) {
				other = append(other, randomSteps(rnd, 3, 3)...)
			}
			other = other[:len(l)]
			for i := range other {
				other[i].rules[n], other[i].channels[n], other[i].cells[n] = l[i].rules[n], l[i].channels[n], l[i].cells[n]
			}
			otherRules, otherChannels := play(c, other)
			if !slices.Equal(column(rules, n), column(otherRules, n)) || !slices.Equal(column(channels, n), column(otherChannels, n)) {
				t.Fatal(n, l, other)
			}
		}
	}
}

// P3: what is handed in stays as it was, and what comes out is new memory; states are apart.
func TestNewMemory(t *testing.T) {
	c := usual(of(1, true, above(0, 5)))
	s, other := alarm.New(c), alarm.New(c)
	cells := []api.Cell{val(6), val(1), none(2), val(9), val(9)}
	before := slices.Clone(cells)
	s.AckChannel(2)
	for i := range 3 {
		r, ch := s.Tick(cells[:3])
		if !slices.Equal(r, told("+")) || i > 0 && !slices.Equal(ch, told("--+")) {
			t.Error(i, r, ch)
		}
		r, ch = r[:cap(r)], ch[:cap(ch)]
		for k := range r {
			r[k] = api.Alarm{}
		}
		if i > 0 && !slices.Equal(ch[:3], told("--+")) {
			t.Error("lists share", ch)
		}
		for k := range ch {
			ch[k] = api.Alarm{}
		}
	}
	if !slices.Equal(cells, before) {
		t.Error(cells)
	}
	checkTick(t, other, []api.Cell{val(1), val(1), none(2)}, "-", "---")
}
