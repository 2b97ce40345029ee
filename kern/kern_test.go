package kern_test

import (
	"bytes"
	"math"
	"math/rand"
	"slices"
	"testing"

	"telltale/alarm"
	"telltale/api"
	"telltale/frame"
	"telltale/ingest"
	"telltale/kern"
	"telltale/pack"
)

func val(v, from int) api.Cell { return api.Cell{Kind: api.Val, V: v, From: from} }

func above(ch, n int) api.Term { return api.Term{Op: api.Above, Ch: ch, N: n} }

// usual has one device of one channel; a packet's first sample is known within 14.
func usual(rules ...api.Rule) api.Conf {
	return api.Conf{Period: 10, Horizon: 2, Cap: 8, Min: 0, Max: 5, Rho: 0, Bound: 20, Window: 8, Stale: 3, Steps: [][]int{{10}}, Rules: rules}
}

func framed(data []byte) []byte {
	f, is := frame.Frame(data)
	if !is {
		panic("no frame")
	}
	return f
}

// sent is a packet's frame.
func sent(p api.Packet) []byte {
	data, is := pack.Data(p)
	if !is {
		panic("no packet")
	}
	return framed(data)
}

func alike(a, b api.Told) bool {
	return a.Tick == b.Tick && slices.Equal(a.Cells, b.Cells) && slices.Equal(a.Rules, b.Rules) && slices.Equal(a.Chans, b.Chans)
}

func isZero(x api.Told) bool {
	return x.Tick == 0 && len(x.Cells) == 0 && len(x.Rules) == 0 && len(x.Chans) == 0
}

func fresh(t *testing.T, c api.Conf) *kern.Kern {
	t.Helper()
	k, is := kern.New(c)
	if !is || k == nil {
		t.Fatal("no kern", c)
	}
	return k
}

// quiet does an event that tells nothing.
func quiet(t *testing.T, k *kern.Kern, e api.Event) {
	t.Helper()
	if x, is := k.Do(e); is || !isZero(x) {
		t.Errorf("Do(%v) = %v, %v", e, x, is)
	}
}

// ticks are so many of which nothing is asked.
func ticks(k *kern.Kern, many int) {
	for range many {
		k.Do(api.Event{Kind: api.Tick})
	}
}

func checkTick(t *testing.T, k *kern.Kern, want api.Told) {
	t.Helper()
	if x, is := k.Do(api.Event{Kind: api.Tick}); !is || !alike(x, want) {
		t.Errorf("%v, %v; want %v", x, is, want)
	}
}

func take(data ...[]byte) api.Event {
	return api.Event{Kind: api.Bytes, Data: bytes.Join(data, nil)}
}

// P22.1: a setting that is right has one, another has none.
func TestNew(t *testing.T) {
	fresh(t, usual())
	good := api.Rule{Terms: []api.Term{above(0, 5)}, Hold: 1}
	fresh(t, usual(slices.Repeat([]api.Rule{good}, 8)...))
	wrong := []api.Conf{{}, usual(api.Rule{}), usual(slices.Repeat([]api.Rule{good}, 9)...), usual(api.Rule{Terms: []api.Term{above(1, 5)}, Hold: 1}), usual()}
	wrong[4].Cap = 2
	for _, c := range wrong {
		if k, is := kern.New(c); is || k != nil {
			t.Error(c)
		}
	}
}

// P22.1: the example, an event of another kind does nothing.
func TestOtherKinds(t *testing.T) {
	k := fresh(t, usual(api.Rule{Terms: []api.Term{above(0, 5)}, Hold: 1, Latch: true}))
	ticks(k, 11)
	for _, kind := range []int{9, 0, -1, 5, 6, math.MinInt, math.MaxInt} {
		quiet(t, k, api.Event{Kind: kind, Data: sent(api.Packet{Stamp: 100, Vals: []int{7}}), N: 0})
	}
	if got := k.Counts(); got != (api.Counts{}) {
		t.Error(got)
	}
	checkTick(t, k, api.Told{Tick: 10, Cells: []api.Cell{{Kind: api.Unsync}}, Rules: []api.Alarm{{}}, Chans: []api.Alarm{{On: true, Now: true}}})
}

// P22.1: nothing is told until Horizon ticks were; then ticks from 0 on.
func TestTicks(t *testing.T) {
	for _, horizon := range []int{1, 2, 7, 32} {
		c := usual()
		c.Horizon, c.Cap, c.Stale, c.Steps = horizon, 40, 1000, [][]int{{1}, {1, 1}}
		k := fresh(t, c)
		for range horizon - 1 {
			quiet(t, k, api.Event{Kind: api.Tick})
		}
		u := api.Cell{Kind: api.Unsync}
		for at := range 5 {
			checkTick(t, k, api.Told{Tick: at, Cells: []api.Cell{u, u, u}, Chans: make([]api.Alarm, 3)})
		}
		if got := k.Counts(); got != (api.Counts{}) {
			t.Error(got)
		}
	}
}

// P22.1: packets come in frames, half a frame is left until the other half comes, and is taken at the next tick.
func TestBytes(t *testing.T) {
	k := fresh(t, usual(api.Rule{Terms: []api.Term{above(0, 5)}, Hold: 1}))
	ticks(k, 11)
	one, two := sent(api.Packet{Seq: 4, Stamp: 100, Vals: []int{7}}), sent(api.Packet{Seq: 5, Stamp: 110, Vals: []int{8}})
	quiet(t, k, take([]byte{1, 2}, one, two[:5]))
	quiet(t, k, take())
	silent := []api.Alarm{{On: true, Now: true}}
	checkTick(t, k, api.Told{Tick: 10, Cells: []api.Cell{{Kind: api.Missing}}, Rules: make([]api.Alarm, 1), Chans: silent})
	quiet(t, k, take(two[5:], []byte{9}))
	checkTick(t, k, api.Told{Tick: 11, Cells: []api.Cell{val(7, 32)}, Rules: silent, Chans: []api.Alarm{{On: true}}})
	checkTick(t, k, api.Told{Tick: 12, Cells: []api.Cell{val(8, 40)}, Rules: silent, Chans: []api.Alarm{{On: true}}})
	want := api.Counts{Bad: 3}
	want.By[api.Fresh], want.By[api.Placed] = 2, 2
	if got := k.Counts(); got != want {
		t.Error(got)
	}
}

// P22.1: frames that hold no packet are Wrong; packets of no channel are Unknown; bytes that are left are not counted.
func TestCounts(t *testing.T) {
	c := usual()
	c.Horizon = 3
	k := fresh(t, c)
	quiet(t, k, take(framed(nil), framed(make([]byte, 11)), framed(make([]byte, 13)), framed(make([]byte, 27)), framed(make([]byte, 28)), framed(make([]byte, 255))))
	if got := k.Counts(); got != (api.Counts{Wrong: 6}) {
		t.Error(got)
	}
	quiet(t, k, take(sent(api.Packet{Dev: 1, Vals: []int{1}}), sent(api.Packet{Chan: 1, Vals: []int{1}}), []byte{0, 0, 0, api.Mark}))
	if got := k.Counts(); got != (api.Counts{Bad: 3, Wrong: 6}) {
		t.Error(got)
	}
	quiet(t, k, api.Event{Kind: api.Tick})
	if got := k.Counts(); got != (api.Counts{Bad: 3, Wrong: 6, Unknown: 2}) {
		t.Error(got)
	}
	quiet(t, k, api.Event{Kind: api.Tick, Data: []byte{1, 2, 3}})
	if got := k.Counts(); got != (api.Counts{Bad: 3, Wrong: 6, Unknown: 2}) {
		t.Error(got)
	}
}

// P22.1: acks are of a rule's, or a channel's, number; ahead of what is told first they stay.
func TestAcks(t *testing.T) {
	below := api.Rule{Terms: []api.Term{{Op: api.Below, Ch: 0, N: 100}}, Hold: 1, Latch: true}
	c := usual(below, below)
	c.Stale = 1
	on, now := api.Alarm{On: true}, api.Alarm{On: true, Now: true}
	k := fresh(t, c)
	quiet(t, k, api.Event{Kind: api.AckC})
	ticks(k, 11)
	quiet(t, k, take(sent(api.Packet{Seq: 4, Stamp: 100, Vals: []int{7}})))
	checkTick(t, k, api.Told{Tick: 10, Cells: []api.Cell{{Kind: api.Missing}}, Rules: []api.Alarm{{}, {}}, Chans: []api.Alarm{now}})
	// The ack ahead of the first cell came with the alarm; so a sample ends it.
	quiet(t, k, take(sent(api.Packet{Seq: 5, Stamp: 110, Vals: []int{700}})))
	checkTick(t, k, api.Told{Tick: 11, Cells: []api.Cell{val(7, 32)}, Rules: []api.Alarm{now, now}, Chans: []api.Alarm{{}}})
	for _, n := range []int{-1, 2, math.MaxInt, math.MinInt} {
		quiet(t, k, api.Event{Kind: api.AckR, N: n})
		quiet(t, k, api.Event{Kind: api.AckC, N: n + 1})
	}
	quiet(t, k, api.Event{Kind: api.AckR, N: 1})
	checkTick(t, k, api.Told{Tick: 12, Cells: []api.Cell{val(700, 40)}, Rules: []api.Alarm{on, {}}, Chans: []api.Alarm{{}}})
	quiet(t, k, api.Event{Kind: api.AckC, N: 0})
	checkTick(t, k, api.Told{Tick: 13, Cells: []api.Cell{{Kind: api.Missing}}, Rules: []api.Alarm{on, {}}, Chans: []api.Alarm{now}})
}

func randomSetting(rnd *rand.Rand) api.Conf {
	c := api.Conf{Period: 1 + rnd.Intn(20), Horizon: 1 + rnd.Intn(6), Rho: []int{0, 0, 100, 5000}[rnd.Intn(4)], Bound: 20 + rnd.Intn(80), Window: 1 + rnd.Intn(20), Stale: 1 + rnd.Intn(4)}
	c.Cap = c.Horizon + 1 + rnd.Intn(10)
	c.Min = rnd.Intn(3 * c.Period)
	c.Max = c.Min + rnd.Intn(3*c.Period)
	for range 1 + rnd.Intn(3) {
		var steps []int
		for range 1 + rnd.Intn(2) {
			steps = append(steps, 1+rnd.Intn(2*c.Period))
		}
		c.Steps = append(c.Steps, steps)
	}
	for range rnd.Intn(4) {
		r := api.Rule{Terms: []api.Term{above(0, rnd.Intn(50)-25)}, Hold: 1 + rnd.Intn(2), Latch: rnd.Intn(2) == 0}
		if len(c.Steps) > 1 {
			r.Terms = append(r.Terms, api.Term{Op: api.Below, Ch: 1, N: 7}, api.Term{Op: api.Or})
		}
		c.Rules = append(c.Rules, r)
	}
	return c
}

func randomPacket(rnd *rand.Rand, c api.Conf, now int) api.Packet {
	p := api.Packet{Dev: rnd.Intn(len(c.Steps)), Boot: (255 + now/30) % 256, Seq: (65530 + now + rnd.Intn(9)) % 65536}
	p.Chan = rnd.Intn(len(c.Steps[p.Dev]))
	p.Stamp = max(0, 500*p.Dev+now*c.Period+rnd.Intn(3*c.Period)-2*c.Period)
	switch rnd.Intn(14) {
	case 0:
		p.Dev, p.Chan = rnd.Intn(5), rnd.Intn(5)
	case 1:
		p.Boot = (p.Boot + rnd.Intn(3)) % 256
	case 2:
		p.Stamp = rnd.Intn(100_000)
	}
	for range 1 + rnd.Intn(8) {
		p.Vals = append(p.Vals, rnd.Intn(100)-50)
	}
	return p
}

// piece is what comes between two ticks: whole frames, or bytes among them.
func randomPieces(rnd *rand.Rand, c api.Conf, now int) [][]byte {
	var l [][]byte
	for range rnd.Intn(5) {
		switch rnd.Intn(9) {
		case 0:
			l = append(l, framed(make([]byte, rnd.Intn(40))))
		case 1:
			spoilt := sent(randomPacket(rnd, c, now))
			spoilt[rnd.Intn(len(spoilt))] ^= byte(1 + rnd.Intn(255))
			l = append(l, spoilt)
		case 2:
			some := make([]byte, rnd.Intn(9))
			rnd.Read(some)
			l = append(l, some)
		default:
			l = append(l, sent(randomPacket(rnd, c, now)))
		}
	}
	return l
}

// P22.1, P22.2: whatever comes, in whatever parts: what is told is what the layers below tell of all packets of a tick.
func TestWhateverComes(t *testing.T) {
	rnd := rand.New(rand.NewSource(1))
	told := 0
	for range 120 {
		c := randomSetting(rnd)
		k, other := fresh(t, c), fresh(t, c)
		devices, alarms := ingest.New(c), alarm.New(c)
		var left []byte
		bad, wrong := 0, 0
		for now := 1; now < 90; now++ {
			all := bytes.Join(randomPieces(rnd, c, now), nil)
			quiet(t, k, take(all))
			for rest := all; len(rest) > 0; {
				many := rnd.Intn(min(len(rest), 20) + 1)
				quiet(t, other, take(rest[:many]))
				rest = rest[many:]
			}
			var packets []api.Packet
			frames, rest, passed := frame.Split(append(left, all...))
			left, bad = rest, bad+passed
			for _, data := range frames {
				p, err := pack.Packet(data)
				if err != api.OK {
					wrong++
					continue
				}
				packets = append(packets, p)
			}
			if rnd.Intn(5) == 0 {
				n := rnd.Intn(4)
				alarms.AckRule(n)
				quiet(t, k, api.Event{Kind: api.AckR, N: n})
				quiet(t, other, api.Event{Kind: api.AckR, N: n})
			}
			if rnd.Intn(5) == 0 {
				n := rnd.Intn(4)
				alarms.AckChannel(n)
				quiet(t, k, api.Event{Kind: api.AckC, N: n})
				quiet(t, other, api.Event{Kind: api.AckC, N: n})
			}
			cells := devices.Tick(packets)
			if now < c.Horizon {
				quiet(t, k, api.Event{Kind: api.Tick})
				quiet(t, other, api.Event{Kind: api.Tick})
			} else {
				rules, chans := alarms.Tick(cells)
				want := api.Told{Tick: now - c.Horizon, Cells: cells, Rules: rules, Chans: chans}
				checkTick(t, k, want)
				checkTick(t, other, want)
			}
			counts := devices.Counts()
			counts.Bad, counts.Wrong = bad, wrong
			if k.Counts() != counts || other.Counts() != counts {
				t.Fatal(k.Counts(), other.Counts(), counts)
			}
			for _, cell := range cells {
				if cell.Kind == api.Val {
					told++
				}
			}
		}
	}
	if told < 500 {
		t.Error("too few samples told to say", told)
	}
}

// noise is bytes that are no marks.
func noise(rnd *rand.Rand) []byte {
	b := make([]byte, rnd.Intn(6))
	for i := range b {
		b[i] = byte(rnd.Intn(api.Mark))
	}
	return b
}

// P22.3: whole frames between two ticks, in another order, with copies, and with bytes between that are no marks, tell the same.
func TestWhateverTheOrder(t *testing.T) {
	rnd := rand.New(rand.NewSource(2))
	for range 100 {
		c := randomSetting(rnd)
		k, other := fresh(t, c), fresh(t, c)
		for now := 1; now < 80; now++ {
			var l [][]byte
			for range rnd.Intn(5) {
				if rnd.Intn(8) == 0 {
					l = append(l, framed(make([]byte, rnd.Intn(40))))
				} else {
					l = append(l, sent(randomPacket(rnd, c, now)))
				}
			}
			quiet(t, k, take(l...))
			for range rnd.Intn(3) {
				if len(l) > 0 {
					l = append(l, l[rnd.Intn(len(l))])
				}
			}
			rnd.Shuffle(len(l), func(i, j int) { l[i], l[j] = l[j], l[i] })
			quiet(t, other, take(noise(rnd)))
			for _, f := range l {
				quiet(t, other, take(f, noise(rnd)))
			}
			x, is := k.Do(api.Event{Kind: api.Tick})
			y, too := other.Do(api.Event{Kind: api.Tick})
			if is != too || !alike(x, y) {
				t.Fatal(x, is, y, too)
			}
		}
	}
}

// P3: what is handed in stays as it was and is not kept; what comes out is new memory; kerns are apart.
func TestNewMemory(t *testing.T) {
	c := usual(api.Rule{Terms: []api.Term{above(0, 5)}, Hold: 1, Latch: true})
	k, other := fresh(t, c), fresh(t, c)
	ticks(k, 11)
	ticks(other, 11)
	one, two := sent(api.Packet{Seq: 4, Stamp: 100, Vals: []int{7}}), sent(api.Packet{Seq: 5, Stamp: 110, Vals: []int{8}})
	all := bytes.Join([][]byte{one, two}, nil)
	before := bytes.Clone(all)
	half := len(one) + 4
	quiet(t, k, api.Event{Kind: api.Bytes, Data: all[:half]})
	quiet(t, k, api.Event{Kind: api.Bytes, Data: nil})
	if !bytes.Equal(all, before) {
		t.Error(all)
	}
	rest := bytes.Clone(all[half:])
	clear(all)
	quiet(t, k, api.Event{Kind: api.Bytes, Data: rest})
	clear(rest)
	silent := []api.Alarm{{On: true, Now: true}}
	for i, cell := range []api.Cell{{Kind: api.Missing}, val(7, 32), val(8, 40)} {
		rules, chans := []api.Alarm{{On: i > 0, Now: i > 0}}, []api.Alarm{{On: true}}
		if i == 0 {
			chans = silent
		}
		x, is := k.Do(api.Event{Kind: api.Tick})
		if !is || !alike(x, api.Told{Tick: 10 + i, Cells: []api.Cell{cell}, Rules: rules, Chans: chans}) {
			t.Error(i, x, is)
		}
		x.Rules[0].On, x.Rules[0].Now = false, false
		if x.Chans[0] != chans[0] {
			t.Error("lists share")
		}
		x.Cells[0], x.Chans[0] = val(99, 99), api.Alarm{}
	}
	checkTick(t, other, api.Told{Tick: 10, Cells: []api.Cell{{Kind: api.Unsync}}, Rules: []api.Alarm{{}}, Chans: silent})
	if got := other.Counts(); got != (api.Counts{}) {
		t.Error(got)
	}
}
