package run_test

import (
	"bytes"
	"fmt"
	"math/rand"
	"slices"
	"strings"
	"testing"

	"telltale/api"
	"telltale/frame"
	"telltale/kern"
	"telltale/pack"
	"telltale/render"
	"telltale/run"
)

func above(ch, n int) api.Term { return api.Term{Op: api.Above, Ch: ch, N: n} }

// usual has one device of one channel; a packet's first sample is known within 14.
func usual(rules ...api.Rule) api.Conf {
	return api.Conf{Period: 10, Horizon: 2, Cap: 8, Min: 0, Max: 5, Rho: 0, Bound: 20, Window: 8, Stale: 3, Steps: [][]int{{10}}, Rules: rules}
}

func tick() api.Event { return api.Event{Kind: api.Tick} }

func take(data ...[]byte) api.Event {
	return api.Event{Kind: api.Bytes, Data: bytes.Join(data, nil)}
}

func framed(data []byte) []byte {
	f, is := frame.Frame(data)
	if !is {
		panic("no frame")
	}
	return f
}

// sent is a packet's frame.
func sent(p api.Packet) []byte {
	data, is := pack.Data(p)
	if !is {
		panic("no packet")
	}
	return framed(data)
}

func alike(a, b api.Told) bool {
	return a.Tick == b.Tick && slices.Equal(a.Cells, b.Cells) && slices.Equal(a.Rules, b.Rules) && slices.Equal(a.Chans, b.Chans)
}

func allAlike(a, b []api.Told) bool { return slices.EqualFunc(a, b, alike) }

// script has a sample told at the tick 11, a spoilt byte, a frame of no packet, and an ack.
func script() []api.Event {
	l := slices.Repeat([]api.Event{tick()}, 11)
	return append(l, take([]byte{0}, framed(nil), sent(api.Packet{Seq: 4, Stamp: 100, Vals: []int{7}}), sent(api.Packet{Dev: 1, Vals: []int{7}})),
		tick(), tick(), api.Event{Kind: api.AckC, N: 0}, api.Event{Kind: 9}, tick(), api.Event{Kind: api.AckR, N: 0}, tick())
}

// P24.1: the example, no events; a setting that is not right.
func TestNoEvents(t *testing.T) {
	for _, l := range [][]api.Event{nil, {}} {
		told, counts, is := run.Run(usual(), l)
		if !is || len(told) != 0 || counts != (api.Counts{}) {
			t.Error(told, counts, is)
		}
		if got := run.Report(usual(), l); got != "counts 0 0 0 0 0 0 0 0 0 0 0 0 0\n" {
			t.Errorf("%q", got)
		}
	}
}

// P24.1: a setting that is not right tells nothing.
func TestNotRight(t *testing.T) {
	wrong := usual()
	wrong.Period = 0
	for _, c := range []api.Conf{{}, wrong, usual(api.Rule{}), usual(api.Rule{Terms: []api.Term{above(1, 5)}, Hold: 1})} {
		for _, l := range [][]api.Event{nil, script()} {
			told, counts, is := run.Run(c, l)
			if is || len(told) != 0 || counts != (api.Counts{}) {
				t.Error(c, told, counts, is)
			}
			if got := run.Report(c, l); got != "" {
				t.Errorf("%q", got)
			}
		}
	}
}

// P24.1: a script that is told by hand.
func TestReport(t *testing.T) {
	c := usual(api.Rule{Terms: []api.Term{above(0, 5)}, Hold: 1, Latch: true}, api.Rule{Terms: []api.Term{above(0, 5)}, Hold: 2})
	var want strings.Builder
	for k := range 10 {
		alarm := "-"
		if k >= 2 {
			alarm = "+"
		}
		fmt.Fprintf(&want, "tick %d u / - - / %s\n", k, alarm)
	}
	want.WriteString("tick 10 m / - - / +\ntick 11 v7@32 / + - / *\ntick 12 m / + - / -\ntick 13 m / + - / -\ncounts 1 1 1 1 0 0 0 0 0 0 0 1 0\n")
	if got := run.Report(c, script()); got != want.String() {
		t.Errorf("%s, not %s", got, want.String())
	}
}

// P24.1: counts stand in their order.
func TestReportOfCounts(t *testing.T) {
	c := usual()
	l := slices.Repeat([]api.Event{tick()}, 11)
	l = append(l, take([]byte{1, 2, 3}, framed(nil), framed(nil), sent(api.Packet{Dev: 9, Vals: []int{1}}), sent(api.Packet{Boot: 3, Seq: 100, Stamp: 100, Vals: []int{7}})), tick())
	for range 2 { // Dup
		l = append(l, take(sent(api.Packet{Boot: 3, Seq: 100, Stamp: 100, Vals: []int{7}})), tick())
	}
	for range 3 { // Old
		l = append(l, take(sent(api.Packet{Boot: 3, Seq: 50, Stamp: 100, Vals: []int{7}})), tick())
	}
	for range 5 { // Stray
		l = append(l, take(sent(api.Packet{Boot: 9, Seq: 50, Stamp: 100, Vals: []int{7}})), tick())
	}
	l = append(l, take(sent(api.Packet{Boot: 4, Seq: 1, Stamp: 30, Vals: []int{1, 2, 3, 4}})), tick())
	_, counts, is := run.Run(c, l)
	by := counts.By
	if !is || counts.Bad != 3 || counts.Wrong != 2 || counts.Unknown != 1 || by[api.Fresh] != 1 || by[api.Dup] != 2 || by[api.Old] != 3 || by[api.Stray] != 5 || by[api.Again] != 1 || by[api.Late]+by[api.Taken]+by[api.Placed] != 5 {
		t.Error(counts, is)
	}
	line := fmt.Sprintln("counts", 3, 2, 1, 1, 2, 3, 1, 5, by[6], by[7], by[8], by[9], by[10])
	if got := run.Report(c, l); !strings.HasSuffix(got, "\n"+line) {
		t.Errorf("%q, not %q", got, line)
	}
}

// P24.1, P24.2: a script is what a kern tells of its events, its beginning tells the beginning, and its text is that.
func TestScripts(t *testing.T) {
	rnd := rand.New(rand.NewSource(1))
	for range 80 {
		w := newWorld(rnd)
		l := w.script(rnd)
		told, counts, is := run.Run(w.c, l)
		k, _ := kern.New(w.c)
		var want []api.Told
		for _, e := range l {
			if x, is := k.Do(e); is {
				want = append(want, x)
			}
		}
		if !is || !allAlike(told, want) || counts != k.Counts() {
			t.Fatal(w.c, told, want, counts, k.Counts())
		}
		line := fmt.Sprintln("counts", counts.Bad, counts.Wrong, counts.Unknown, counts.By[1], counts.By[2], counts.By[3], counts.By[4], counts.By[5], counts.By[6], counts.By[7], counts.By[8], counts.By[9], counts.By[10])
		if got := run.Report(w.c, l); got != render.Text(told)+line {
			t.Fatal(got)
		}
		for range 3 {
			first, _, is := run.Run(w.c, l[:rnd.Intn(len(l)+1)])
			if !is || len(first) > len(told) || !allAlike(first, told[:len(first)]) {
				t.Fatal(w.c, first, told)
			}
		}
	}
}

// P24.2: in which parts bytes come between two ticks alters nothing.
func TestParts(t *testing.T) {
	rnd := rand.New(rand.NewSource(2))
	for range 60 {
		w := newWorld(rnd)
		l := w.script(rnd)
		var parted []api.Event
		for _, e := range l {
			for e.Kind == api.Bytes && len(e.Data) > 1 && rnd.Intn(5) > 0 {
				at := 1 + rnd.Intn(len(e.Data)-1)
				parted = append(parted, take(e.Data[:at]))
				e.Data = e.Data[at:]
			}
			parted = append(parted, e)
		}
		if one, two := run.Report(w.c, l), run.Report(w.c, parted); one != two {
			t.Fatalf("%s\n%s", one, two)
		}
	}
}

// P3: what is handed in stays as it was, and what comes out is new memory; an answer hangs on nothing else.
func TestNewMemory(t *testing.T) {
	c := usual(api.Rule{Terms: []api.Term{above(0, 5)}, Hold: 1, Latch: true})
	l := script()
	var before []api.Event
	for _, e := range l {
		e.Data = bytes.Clone(e.Data)
		before = append(before, e)
	}
	same := func(a, b api.Event) bool { return a.Kind == b.Kind && a.N == b.N && bytes.Equal(a.Data, b.Data) }
	one, _, _ := run.Run(c, l)
	two, _, _ := run.Run(c, l)
	if !allAlike(one, two) || !slices.EqualFunc(l, before, same) {
		t.Error(one, two, l)
	}
	for i := range one {
		one[i].Cells[0], one[i].Rules[0] = api.Cell{Kind: 9}, api.Alarm{Now: true}
		if one[i].Chans[0] != two[i].Chans[0] {
			t.Error("lists share", i)
		}
		one[i].Chans[0] = api.Alarm{Now: true}
	}
	three, _, _ := run.Run(c, l)
	if !allAlike(two, three) {
		t.Error(two, three)
	}
}
