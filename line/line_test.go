package line_test

import (
	"math/rand"
	"slices"
	"testing"

	"telltale/api"
	"telltale/batch"
	"telltale/ingest"
	"telltale/line"
	"telltale/skew"
	"telltale/tick"
	"telltale/track"
)

func val(v, from int) api.Cell { return api.Cell{Kind: api.Val, V: v, From: from} }

func missing() api.Cell { return api.Cell{Kind: api.Missing} }

func unsync() api.Cell { return api.Cell{Kind: api.Unsync} }

func restart() api.Cell { return api.Cell{Kind: api.Restart} }

func alike(a, b [][]api.Cell) bool { return slices.EqualFunc(a, b, slices.Equal[[]api.Cell]) }

func check(t *testing.T, c api.Conf, l [][]api.Packet, want ...[]api.Cell) {
	t.Helper()
	if got := line.Timeline(c, l); !alike(got, want) {
		t.Fatalf("Timeline(%v, %v) = %v; want %v", c, l, got, want)
	}
}

// usual has one device of one channel; a packet's first sample is known within 14.
func usual() api.Conf {
	return api.Conf{Period: 10, Horizon: 2, Cap: 8, Min: 0, Max: 5, Rho: 0, Bound: 20, Window: 8, Stale: 3, Steps: [][]int{{10}}}
}

// ticks are so many, with packets at some.
func ticks(many int, at map[int][]api.Packet) [][]api.Packet {
	l := make([][]api.Packet, many)
	for t, packets := range at {
		l[t-1] = packets
	}
	return l
}

// P16.1: the example, no ticks; fewer than Horizon; just as many; more.
func TestHowMany(t *testing.T) {
	for _, horizon := range []int{1, 2, 5, 32} {
		c := usual()
		c.Horizon, c.Cap, c.Steps = horizon, horizon+1, [][]int{{10, 20}, {5}}
		check(t, c, nil)
		check(t, c, [][]api.Packet{})
		for many := range 2*horizon + 3 {
			got := line.Timeline(c, make([][]api.Packet, many))
			if len(got) != max(0, many-horizon+1) {
				t.Fatal(horizon, many, got)
			}
			for _, cells := range got {
				if !slices.Equal(cells, []api.Cell{unsync(), unsync(), unsync()}) {
					t.Fatal(horizon, many, cells)
				}
			}
		}
	}
}

// P16.1: a sample is at its tick, and each channel is asked for its own device.
func TestSamples(t *testing.T) {
	c := usual()
	l := ticks(14, map[int][]api.Packet{12: {{Boot: 9, Seq: 4, Stamp: 100, Vals: []int{-7}}}})
	want := make([][]api.Cell, 13)
	for k := range want {
		want[k] = []api.Cell{unsync()}
		if k >= 10 {
			want[k] = []api.Cell{missing()}
		}
	}
	want[11] = []api.Cell{val(-7, 32)}
	check(t, c, l, want...)

	c.Steps = [][]int{{10}, {10, 10}}
	l[11][0].Dev, l[11][0].Chan = 1, 1
	for k := range want {
		cell := want[k][0]
		want[k] = []api.Cell{unsync(), missing(), cell}
		if k < 10 {
			want[k][1] = unsync()
		}
	}
	check(t, c, l, want...)
	l[11][0].Chan = 2
	for k := range want {
		want[k] = []api.Cell{unsync(), unsync(), unsync()}
	}
	check(t, c, l, want...)
}

// P16.1: a restart is told of the ticks that are not told yet when it comes, and no more.
func TestRestart(t *testing.T) {
	c := usual()
	c.Horizon, c.Cap, c.Bound = 3, 8, 0 // so no sample has a place
	l := ticks(26, map[int][]api.Packet{
		12: {{Boot: 255, Seq: 4, Stamp: 100, Vals: []int{7}}},
		20: {{Boot: 0, Seq: 9, Stamp: 5, Vals: []int{7}}},
	})
	var want [][]api.Cell
	for k := range 24 {
		switch {
		case k+3 < 12:
			want = append(want, []api.Cell{unsync()})
		case k+1 <= 20 && 20 <= k+3:
			want = append(want, []api.Cell{restart()})
		default:
			want = append(want, []api.Cell{missing()})
		}
	}
	check(t, c, l, want...)
}

// P16.1: the first to come stands first; of one tick the first in order; what comes too late does not count.
func TestFirstToCome(t *testing.T) {
	c := usual()
	c.Horizon, c.Max, c.Window = 4, 30, 100
	l := ticks(16, map[int][]api.Packet{
		12: {{Seq: 50, Stamp: 100, Vals: []int{7}}},                                                                                   // tick 10
		13: {{Seq: 52, Stamp: 99, Vals: []int{5}}, {Seq: 51, Stamp: 101, Vals: []int{4}}, {Seq: 49, Stamp: 70, Vals: []int{1, 2, 3}}}, // 11, 11, and 8 to 10
	})
	got := line.Timeline(c, l)
	want := [][]api.Cell{{missing()}, {val(2, 8*49+1)}, {val(7, 400)}, {val(4, 408)}, {missing()}}
	if len(got) != 13 || !alike(got[8:], want) {
		t.Error(got)
	}
}

// found is a spot, with its tick.
type found struct {
	t, ch, k int
	cell     api.Cell
}

// plainly finds all spots, and what was known of devices at each tick, and then asks for each cell.
func plainly(c api.Conf, l [][]api.Packet) [][]api.Cell {
	var spots []found
	devices := len(c.Steps)
	tracks, ests := make([]api.Track, devices), make([]api.Est, devices)
	for i := range tracks {
		tracks[i] = track.None()
	}
	began := make([][]int, devices)
	on := make([][]bool, devices) // by tick, from 1 on
	for i, packets := range l {
		t := i + 1
		for _, p := range batch.Order(slices.Clone(tracks), packets) {
			if p.Dev >= devices || p.Chan >= len(c.Steps[p.Dev]) {
				continue
			}
			tr, number, what := track.Offer(tracks[p.Dev], c.Window, p.Boot, p.Seq)
			tracks[p.Dev] = tr
			if what != api.Fresh && what != api.Again {
				continue
			}
			if what == api.Again {
				ests[p.Dev] = api.Est{}
				began[p.Dev] = append(began[p.Dev], t)
			}
			ch, step := p.Chan, c.Steps[p.Dev][p.Chan]
			for _, steps := range c.Steps[:p.Dev] {
				ch += len(steps)
			}
			ests[p.Dev], _ = skew.Look(c, ests[p.Dev], p.Stamp+step*(len(p.Vals)-1), t)
			for j, v := range p.Vals {
				lo, hi, _ := skew.At(c, ests[p.Dev], p.Stamp+j*step)
				if k, is := tick.Place(c, lo, hi); is {
					spots = append(spots, found{t, ch, k, val(v, 8*number+j)})
				}
			}
		}
		for dev := range devices {
			on[dev] = append(on[dev], ests[dev].On)
		}
	}
	var out [][]api.Cell
	for k := 0; k <= len(l)-c.Horizon; k++ {
		var cells []api.Cell
		for dev, steps := range c.Steps {
			for range steps {
				ch := len(cells)
				at := slices.IndexFunc(spots, func(s found) bool {
					return s.ch == ch && s.k == k && s.t <= k+c.Horizon && k < max(0, s.t-c.Horizon)+c.Cap
				})
				switch {
				case at >= 0:
					cells = append(cells, spots[at].cell)
				case slices.ContainsFunc(began[dev], func(t int) bool { return t > k && t <= k+c.Horizon }):
					cells = append(cells, restart())
				case !on[dev][k+c.Horizon-1]:
					cells = append(cells, unsync())
				default:
					cells = append(cells, missing())
				}
			}
		}
		out = append(out, cells)
	}
	return out
}

func randomSetting(rnd *rand.Rand) api.Conf {
	c := api.Conf{Period: 1 + rnd.Intn(20), Horizon: 1 + rnd.Intn(8), Rho: []int{0, 0, 100, 5000}[rnd.Intn(4)], Bound: rnd.Intn(80), Window: 1 + rnd.Intn(20), Stale: 3}
	c.Cap = c.Horizon + 1 + rnd.Intn(10)
	c.Min = rnd.Intn(3 * c.Period)
	c.Max = c.Min + rnd.Intn(3*c.Period)
	for range 1 + rnd.Intn(3) {
		var steps []int
		for range 1 + rnd.Intn(3) {
			steps = append(steps, 1+rnd.Intn(2*c.Period))
		}
		c.Steps = append(c.Steps, steps)
	}
	return c
}

func randomPackets(rnd *rand.Rand, c api.Conf, now int) []api.Packet {
	var l []api.Packet
	for range rnd.Intn(4) {
		p := api.Packet{Dev: rnd.Intn(len(c.Steps)), Boot: (255 + now/30) % 256, Seq: (65530 + now + rnd.Intn(9)) % 65536}
		p.Chan = rnd.Intn(len(c.Steps[p.Dev]))
		p.Stamp = max(0, 500*p.Dev+now*c.Period+rnd.Intn(4*c.Period)-2*c.Period)
		switch rnd.Intn(12) {
		case 0:
			p.Dev = rnd.Intn(5)
		case 1:
			p.Chan = rnd.Intn(5)
		case 2:
			p.Boot = (p.Boot + rnd.Intn(3)) % 256
		case 3:
			p.Seq = rnd.Intn(65536)
		case 4:
			p.Stamp = rnd.Intn(100_000)
		}
		for range 1 + rnd.Intn(8) {
			p.Vals = append(p.Vals, rnd.Intn(200)-100)
		}
		l = append(l, p)
	}
	return l
}

// P16.1, P16.2, P16.3: whatever comes, the timeline is what it is by its words, and what ingest tells,
// tick by tick; and that of the first ticks is the beginning of that of all.
func TestWhateverComes(t *testing.T) {
	rnd := rand.New(rand.NewSource(1))
	kinds := map[int]int{}
	for range 150 {
		c := randomSetting(rnd)
		var l [][]api.Packet
		for now := range rnd.Intn(90) {
			l = append(l, randomPackets(rnd, c, now))
		}
		got := line.Timeline(c, l)
		if want := plainly(c, l); !alike(got, want) {
			t.Fatalf("%v %v: %v; want %v", c, l, got, want)
		}
		s := ingest.New(c)
		var told [][]api.Cell
		for i, packets := range l {
			if cells := s.Tick(packets); i+1 >= c.Horizon {
				told = append(told, cells)
			}
		}
		if !alike(got, told) {
			t.Fatalf("%v %v: %v; ingest tells %v", c, l, got, told)
		}
		for range 4 {
			some := rnd.Intn(len(l) + 1)
			first := line.Timeline(c, l[:some])
			if !alike(first, got[:len(first)]) || len(first) != max(0, some-c.Horizon+1) {
				t.Fatalf("%v %v: of %d: %v; of all %v", c, l, some, first, got)
			}
		}
		for _, cells := range got {
			for _, cell := range cells {
				kinds[cell.Kind]++
			}
		}
	}
	for kind := api.Val; kind <= api.Restart; kind++ {
		if kinds[kind] < 100 {
			t.Error("too few to say", kinds)
		}
	}
}

// P3: what is handed in stays as it was, and what comes out is new memory, each row its own.
func TestNewMemory(t *testing.T) {
	all := ticks(20, map[int][]api.Packet{12: {{Seq: 5, Stamp: 110, Vals: []int{8}}, {Seq: 4, Stamp: 100, Vals: []int{7}}, {Seq: 9, Vals: []int{1}}}})
	all[11] = all[11][:2]
	l := all[:16]
	one, two := line.Timeline(usual(), l), line.Timeline(usual(), l)
	if all[11][0].Seq != 5 || all[11][1].Seq != 4 || all[11][:3][2].Seq != 9 || all[16] != nil {
		t.Error(all)
	}
	for i := range one {
		row := one[i][:cap(one[i])]
		for ch := range row {
			row[ch] = val(99, 99)
		}
		if i+1 < len(one) && !slices.Equal(one[i+1], two[i+1]) {
			t.Error(i, one[i+1])
		}
	}
	if got := line.Timeline(usual(), l); !alike(got, two) {
		t.Error(got)
	}
}
