package run_test

import (
	"bytes"
	"fmt"
	"math/rand"
	"slices"
	"testing"

	"telltale/api"
	"telltale/frame"
	"telltale/line"
	"telltale/pack"
	"telltale/phys"
	"telltale/rule"
	"telltale/run"
	"telltale/tech"
)

// truth is a sample: its value, and when it was taken by the monitor's clock.
type truth struct{ v, at int }

// world is a setting, and devices that keep what is promised of clocks and delays.
type world struct {
	c      api.Conf
	ticks  int
	frames [][][]byte       // by tick, from 1 on: what comes, as it was sent
	truths map[string]truth // by channel's number and by which sample it is
	// pure: each device began but once, so that each sample is known by its number.
	pure bool
}

func newWorld(rnd *rand.Rand) *world {
	c := api.Conf{Period: 1 + rnd.Intn(20), Horizon: 1 + rnd.Intn(8), Rho: []int{0, 0, 100, 5000}[rnd.Intn(4)], Window: 1 + rnd.Intn(40), Stale: 1 + rnd.Intn(4)}
	c.Cap = c.Horizon + 1 + rnd.Intn(10)
	c.Min = rnd.Intn(3 * c.Period)
	c.Max = c.Min + rnd.Intn(3*c.Period)
	c.Bound = c.Period + c.Max - c.Min + rnd.Intn(9)
	channels := 0
	for range 1 + rnd.Intn(3) {
		var steps []int
		for range 1 + rnd.Intn(2) {
			steps = append(steps, 1+rnd.Intn(2*c.Period))
			channels++
		}
		c.Steps = append(c.Steps, steps)
	}
	for range rnd.Intn(4) {
		terms := []api.Term{{Op: 1 + rnd.Intn(2), Ch: rnd.Intn(channels), N: rnd.Intn(60) - 30}}
		for range rnd.Intn(3) {
			terms = append(terms, api.Term{Op: 1 + rnd.Intn(2), Ch: rnd.Intn(channels), N: rnd.Intn(60) - 30}, api.Term{Op: api.And + rnd.Intn(2)})
		}
		c.Rules = append(c.Rules, api.Rule{Terms: terms, Hold: 1 + rnd.Intn(3), Latch: rnd.Intn(2) == 0})
	}
	w := &world{c: c, ticks: 40 + rnd.Intn(60), truths: map[string]truth{}, pure: rnd.Intn(2) == 0}
	w.frames = make([][][]byte, w.ticks+1)
	number := 0
	for dev, steps := range c.Steps {
		w.device(rnd, dev, number)
		number += len(steps)
	}
	return w
}

// device sends packets, whose clock differs by a number that drifts as it may.
func (w *world) device(rnd *rand.Rand, dev, firstNumber int) {
	c := w.c
	differ := rnd.Intn(10 * c.Period)
	boot, seq, began := rnd.Intn(256), rnd.Intn(20), 0
	for now := 0; now < w.ticks*c.Period; now += 1 + rnd.Intn(3*c.Period) {
		if !w.pure && rnd.Intn(40) == 0 {
			boot, seq, began = (boot+1)%256, rnd.Intn(5), now
		}
		if silent := now/c.Period%30 > 22; silent {
			continue
		}
		ch := rnd.Intn(len(c.Steps[dev]))
		step := c.Steps[dev][ch]
		p := api.Packet{Dev: dev, Chan: ch, Boot: boot, Seq: seq % 65536, Stamp: now - began}
		for range 1 + rnd.Intn(4) {
			p.Vals = append(p.Vals, rnd.Intn(100)-50)
		}
		last := now + (len(p.Vals)-1)*step
		drifted := c.Rho * last / 1_000_000
		for i, v := range p.Vals {
			w.truths[fmt.Sprint(firstNumber+ch, 8*seq+i)] = truth{v, now + i*step + differ + drifted}
		}
		seq++
		came := last + differ + drifted + c.Min + rnd.Intn(c.Max-c.Min+1)
		at := (came + c.Period - 1) / c.Period
		for range []int{0, 1, 1, 1, 2}[rnd.Intn(5)] { // lost, or once, or twice
			if at >= 1 && at <= w.ticks {
				w.frames[at] = append(w.frames[at], sent(p))
			}
		}
	}
}

// script is what comes as events, with spoilt bytes, frames of no packet, and acks among them.
func (w *world) script(rnd *rand.Rand) []api.Event {
	var l []api.Event
	for at := 1; at <= w.ticks; at++ {
		for _, f := range w.frames[at] {
			switch rnd.Intn(12) {
			case 0:
				f = bytes.Clone(f)
				f[rnd.Intn(len(f))] ^= byte(1 + rnd.Intn(255))
			case 1:
				l = append(l, take(framed(make([]byte, rnd.Intn(12)))))
			case 2:
				l = append(l, take(noise(rnd)))
			case 3:
				l = append(l, take(f[:rnd.Intn(len(f))]))
			}
			l = append(l, take(f))
		}
		for range rnd.Intn(2) {
			l = append(l, api.Event{Kind: api.AckR + rnd.Intn(2), N: rnd.Intn(6)})
		}
		l = append(l, tick())
	}
	return l
}

// noise is bytes that are no marks.
func noise(rnd *rand.Rand) []byte {
	b := make([]byte, rnd.Intn(6))
	for i := range b {
		b[i] = byte(rnd.Intn(api.Mark))
	}
	return b
}

// packets are those of each tick of a script, and what became of all bytes: in frames, passed over, left.
func packets(l []api.Event) (all [][]api.Packet, in, passed, left int) {
	var rest []byte
	var since []api.Packet
	for _, e := range l {
		switch e.Kind {
		case api.Bytes:
			frames, more, many := frame.Split(append(slices.Clone(rest), e.Data...))
			rest, passed = more, passed+many
			for _, data := range frames {
				in += len(framed(data))
				if p, err := pack.Packet(data); err == api.OK {
					since = append(since, p)
				}
			}
		case api.Tick:
			all = append(all, since)
			since = nil
		}
	}
	return all, in, passed, len(rest)
}

// T1: what is told at ticks is the timeline of the packets that came, and is never changed; each byte is passed over,
// in a frame, or left.
func TestTimeline(t *testing.T) {
	rnd := rand.New(rand.NewSource(11))
	kinds := map[int]int{}
	for range 80 {
		w := newWorld(rnd)
		l := w.script(rnd)
		told, counts, _ := run.Run(w.c, l)
		all, in, passed, left := packets(l)
		cells := line.Timeline(w.c, all)
		if len(told) != len(cells) {
			t.Fatal(len(told), len(cells))
		}
		for k, x := range told {
			if x.Tick != k || !slices.Equal(x.Cells, cells[k]) {
				t.Fatal(w.c, k, x, cells[k])
			}
			for _, cell := range x.Cells {
				kinds[cell.Kind]++
			}
		}
		bytesIn := 0
		for _, e := range l {
			bytesIn += len(e.Data)
		}
		if counts.Bad != passed || in+passed+left != bytesIn {
			t.Fatal(counts, in, passed, left, bytesIn)
		}
		first, _, _ := run.Run(w.c, l[:len(l)/2])
		if !allAlike(first, told[:len(first)]) {
			t.Fatal(w.c, first, told)
		}
	}
	for kind := api.Val; kind <= api.Restart; kind++ {
		if kinds[kind] < 100 {
			t.Error("too few to say", kinds)
		}
	}
}

// T2: each cell with a sample holds a value that a packet held, which came by then, of that channel.
func TestNothingInvented(t *testing.T) {
	rnd := rand.New(rand.NewSource(12))
	for range 60 {
		w := newWorld(rnd)
		l := w.script(rnd)
		told, _, _ := run.Run(w.c, l)
		all, _, _, _ := packets(l)
		held := map[[3]int]bool{} // device, its channel and value
		came := 0
		for k, x := range told {
			for ; came < k+w.c.Horizon; came++ {
				for _, p := range all[came] {
					for _, v := range p.Vals {
						held[[3]int{p.Dev, p.Chan, v}] = true
					}
				}
			}
			number := 0
			for dev, steps := range w.c.Steps {
				for ch := range steps {
					cell := x.Cells[number]
					number++
					if cell.Kind == api.Val && !held[[3]int{dev, ch, cell.V}] {
						t.Fatal(w.c, k, dev, ch, cell)
					}
				}
			}
		}
	}
}

// T2: with clocks and delays as is promised, the tick is near enough to when the sample was taken.
func TestNearEnough(t *testing.T) {
	rnd := rand.New(rand.NewSource(13))
	seen := 0
	for range 120 {
		w := newWorld(rnd)
		if !w.pure {
			continue
		}
		var l []api.Event
		for at := 1; at <= w.ticks; at++ {
			l = append(l, take(noise(rnd)), take(w.frames[at]...), tick())
		}
		told, _, _ := run.Run(w.c, l)
		for _, x := range told {
			for number, cell := range x.Cells {
				if cell.Kind != api.Val {
					continue
				}
				seen++
				want, is := w.truths[fmt.Sprint(number, cell.From)]
				off := x.Tick*w.c.Period - want.at
				if !is || want.v != cell.V || 2*max(off, -off) > 2*w.c.Bound+w.c.Period {
					t.Fatal(w.c, number, cell, want, x.Tick)
				}
			}
		}
	}
	if seen < 300 {
		t.Error("too few samples told to say", seen)
	}
}

// acksOf are, for each tick that is told, whether that was acknowledged since the one ahead.
func acksOf(l []api.Event, horizon, kind, n int) []bool {
	var acks []bool
	acked, ticks := false, 0
	for _, e := range l {
		acked = acked || e.Kind == kind && e.N == n
		if e.Kind != api.Tick {
			continue
		}
		if ticks++; ticks >= horizon {
			acks = append(acks, acked)
			acked = false
		}
	}
	return acks
}

// T3: all alarms are folds of what rules say of the cells that are told, whatever samples stood where there are none.
func TestAlarms(t *testing.T) {
	rnd := rand.New(rand.NewSource(14))
	for range 60 {
		w := newWorld(rnd)
		l := w.script(rnd)
		told, _, _ := run.Run(w.c, l)
		for n, r := range w.c.Rules {
			var truths []int
			var got []api.Alarm
			for _, x := range told {
				says := rule.Says(r, x.Cells)
				other := slices.Clone(x.Cells)
				for ch := range other {
					if other[ch].Kind != api.Val {
						other[ch] = api.Cell{Kind: api.Val, V: rnd.Intn(100) - 50}
					}
				}
				if says != api.Unknown && rule.Says(r, other) != says {
					t.Fatal(r, x, other)
				}
				truths, got = append(truths, says), append(got, x.Rules[n])
			}
			acks := acksOf(l, w.c.Horizon, api.AckR, n)
			if want := phys.Steps(r, truths, acks); !slices.Equal(got, want) {
				t.Fatal(r, truths, got, want)
			}
			for i := 1; i < len(got); i++ {
				if truths[i] == api.Unknown && (got[i].Now != got[i-1].Now || got[i].On && !got[i-1].On || !acks[i] && got[i] != got[i-1]) {
					t.Fatal("an Unknown", r, truths, got)
				}
			}
		}
	}
}

// T4: a channel without samples for Stale cells is told, and stays told until there is a sample and an ack.
func TestSilence(t *testing.T) {
	rnd := rand.New(rand.NewSource(15))
	raised := 0
	for range 60 {
		w := newWorld(rnd)
		l := w.script(rnd)
		told, _, _ := run.Run(w.c, l)
		for number := range told[0].Cells {
			acks := acksOf(l, w.c.Horizon, api.AckC, number)
			var samples []bool
			var got []api.Alarm
			silent := 0
			for i, x := range told {
				heard := x.Cells[number].Kind == api.Val
				samples, got = append(samples, heard), append(got, x.Chans[number])
				silent++
				if heard {
					silent = 0
				}
				if is := silent >= w.c.Stale; x.Chans[number].Now != is || is && !x.Chans[number].On {
					t.Fatal(w.c.Stale, samples, got)
				}
				if i > 0 && got[i-1].On && !got[i].On {
					if slices.Index(samples[:i+1], true) < 0 || !slices.Contains(acks[:i+1], true) {
						t.Fatal("not heard and acknowledged", samples, acks, got)
					}
				}
				if x.Chans[number].Now {
					raised++
				}
			}
			if want := tech.Steps(w.c.Stale, samples, acks); !slices.Equal(got, want) {
				t.Fatal(w.c.Stale, samples, got, want)
			}
		}
	}
	if raised < 100 {
		t.Error("too few to say", raised)
	}
}

// T5: frames that come between two ticks may come in another order, more than once, and with other bytes between.
func TestWhateverTheOrder(t *testing.T) {
	rnd := rand.New(rand.NewSource(16))
	for range 60 {
		w := newWorld(rnd)
		var l, other []api.Event
		for at := 1; at <= w.ticks; at++ {
			frames := slices.Clone(w.frames[at])
			l = append(l, take(frames...), tick())
			for range rnd.Intn(3) {
				if len(frames) > 0 {
					frames = append(frames, frames[rnd.Intn(len(frames))])
				}
			}
			rnd.Shuffle(len(frames), func(i, k int) { frames[i], frames[k] = frames[k], frames[i] })
			other = append(other, take(noise(rnd)))
			for _, f := range frames {
				other = append(other, take(f, noise(rnd)))
			}
			other = append(other, tick())
		}
		one, counts, _ := run.Run(w.c, l)
		two, otherCounts, _ := run.Run(w.c, other)
		if !allAlike(one, two) || counts.By != otherCounts.By {
			t.Fatal(w.c, one, two, counts, otherCounts)
		}
	}
}
