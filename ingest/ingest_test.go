package ingest_test

import (
	"fmt"
	"math/rand"
	"slices"
	"testing"

	"telltale/api"
	"telltale/batch"
	"telltale/ingest"
	"telltale/skew"
	"telltale/tick"
	"telltale/track"
)

func val(v, from int) api.Cell { return api.Cell{Kind: api.Val, V: v, From: from} }

func missing() api.Cell { return api.Cell{Kind: api.Missing} }

func unsync() api.Cell { return api.Cell{Kind: api.Unsync} }

func restart() api.Cell { return api.Cell{Kind: api.Restart} }

// usual has one device of one channel; a packet's first sample is known within 14.
func usual() api.Conf {
	return api.Conf{Period: 10, Horizon: 2, Cap: 8, Min: 0, Max: 5, Rho: 0, Bound: 20, Window: 8, Stale: 3, Steps: [][]int{{10}}}
}

// quiet has so many ticks with no packets.
func quiet(s *ingest.State, many int) {
	for range many {
		s.Tick(nil)
	}
}

func checkTick(t *testing.T, s *ingest.State, l []api.Packet, want ...api.Cell) {
	t.Helper()
	if got := s.Tick(l); !slices.Equal(got, want) {
		t.Fatalf("Tick(%v) = %v; want %v", l, got, want)
	}
}

// checkCounts: what By has, but for what is 0.
func checkCounts(t *testing.T, s *ingest.State, unknown int, by map[int]int) {
	t.Helper()
	want := api.Counts{Unknown: unknown}
	for what, many := range by {
		want.By[what] = many
	}
	if got := s.Counts(); got != want {
		t.Fatalf("Counts() = %v; want %v", got, want)
	}
}

// P15.1: the example, nothing comes for Horizon ticks; ahead of that none is told.
func TestNothingComes(t *testing.T) {
	for _, horizon := range []int{1, 2, 5, 32} {
		c := usual()
		c.Horizon, c.Cap, c.Steps = horizon, horizon+1, [][]int{{10, 20}, {5}}
		s := ingest.New(c)
		for range horizon - 1 {
			checkTick(t, s, nil)
		}
		for range 50 {
			checkTick(t, s, nil, unsync(), unsync(), unsync())
		}
		checkCounts(t, s, 0, nil)
	}
}

// P15.1: a sample is told at its tick, Horizon ticks later, and which one it was.
func TestSample(t *testing.T) {
	s := ingest.New(usual())
	quiet(s, 11)
	// Told at tick 12: from 106 to 120, which is nearest to tick 11.
	checkTick(t, s, []api.Packet{{Boot: 9, Seq: 4, Stamp: 100, Vals: []int{-7}}}, missing())
	checkTick(t, s, nil, val(-7, 32))
	checkTick(t, s, nil, missing())
	checkCounts(t, s, 0, map[int]int{api.Fresh: 1, api.Placed: 1})
}

// P15.1: each value's time is the stamp and a step for each ahead of it; the clock is known by the last one's.
func TestManyValues(t *testing.T) {
	c := usual()
	c.Horizon, c.Cap = 4, 8
	s := ingest.New(c)
	quiet(s, 11)
	// The last sample's time is 120 by its clock: from 106 to 120, so all is earlier by 7.
	checkTick(t, s, []api.Packet{{Seq: 2, Stamp: 100, Vals: []int{1, 2, 3}}}, missing())
	checkTick(t, s, nil, val(1, 16))
	checkTick(t, s, nil, val(2, 17))
	checkTick(t, s, nil, val(3, 18))
	checkTick(t, s, nil, missing())
	checkCounts(t, s, 0, map[int]int{api.Fresh: 1, api.Placed: 3})
}

// P15.1: packets of no device, or no channel of it, are Unknown, and nothing else.
func TestUnknown(t *testing.T) {
	c := usual()
	c.Steps = [][]int{{10}, {10, 10}}
	s := ingest.New(c)
	quiet(s, 11)
	l := []api.Packet{{Dev: 2, Vals: []int{1}}, {Dev: 255, Vals: []int{1}}, {Chan: 1, Seq: 5, Stamp: 100, Vals: []int{1}}, {Dev: 1, Chan: 2, Vals: []int{1}}, {Dev: 0, Chan: 255, Vals: []int{1, 2}}}
	checkTick(t, s, l, unsync(), unsync(), unsync())
	checkCounts(t, s, 5, nil)
	// The device's track knows nothing of them.
	checkTick(t, s, []api.Packet{{Seq: 5, Stamp: 110, Vals: []int{1}}}, missing(), unsync(), unsync())
	checkCounts(t, s, 5, map[int]int{api.Fresh: 1, api.Placed: 1})
}

// P15.1: Dup, Old and Stray packets are counted, and their values, and what they tell of clocks, are not taken.
func TestNotTaken(t *testing.T) {
	s := ingest.New(usual())
	quiet(s, 11)
	checkTick(t, s, []api.Packet{{Boot: 3, Seq: 20, Stamp: 100, Vals: []int{7}}}, missing())
	l := []api.Packet{
		{Boot: 3, Seq: 20, Stamp: 110, Vals: []int{8}},    // Dup
		{Boot: 3, Seq: 12, Stamp: 110, Vals: []int{8}},    // Old
		{Boot: 3, Seq: 65000, Stamp: 110, Vals: []int{8}}, // Old, as there is no number
		{Boot: 5, Seq: 21, Stamp: 110, Vals: []int{8}},    // Stray
		{Boot: 2, Seq: 21, Stamp: 110, Vals: []int{8}},    // Stray
	}
	checkTick(t, s, l, val(7, 160))
	checkTick(t, s, nil, missing())
	checkTick(t, s, nil, missing())
	checkCounts(t, s, 0, map[int]int{api.Fresh: 1, api.Placed: 1, api.Dup: 1, api.Old: 2, api.Stray: 2})
}

// P15.1: behind a new beginning the clock is known anew, and cells of no sample are Restart for Horizon ticks.
func TestRestart(t *testing.T) {
	c := usual()
	c.Horizon, c.Cap = 3, 8
	s := ingest.New(c)
	quiet(s, 11)
	checkTick(t, s, []api.Packet{{Boot: 255, Seq: 20, Stamp: 100, Vals: []int{7}}}, missing()) // tick 12 tells 9
	checkTick(t, s, nil, missing())
	checkTick(t, s, nil, val(7, 160)) // tick 14 tells 11
	// From 146 to 160: tick 15; by the clock that was known it would be none that is near.
	checkTick(t, s, []api.Packet{{Boot: 0, Seq: 3, Stamp: 5, Vals: []int{9}}}, restart()) // 16 tells 13: tick 15
	checkTick(t, s, nil, restart())
	checkTick(t, s, nil, val(9, 24))
	checkTick(t, s, nil, missing())
	checkCounts(t, s, 0, map[int]int{api.Fresh: 1, api.Again: 1, api.Placed: 2})
}

// P15.1: Restart goes for just those ticks, and for that device alone.
func TestRestartEnds(t *testing.T) {
	for _, horizon := range []int{1, 2, 4} {
		c := usual()
		c.Horizon, c.Cap, c.Bound, c.Steps = horizon, 8, 0, [][]int{{10}, {10, 10}, {10}}
		s := ingest.New(c)
		quiet(s, 11)
		s.Tick([]api.Packet{{Dev: 1, Chan: 1, Boot: 7, Stamp: 100, Vals: []int{7}}, {Dev: 2, Boot: 7, Stamp: 100, Vals: []int{7}}})
		quiet(s, 5)
		checkTick(t, s, []api.Packet{{Dev: 1, Chan: 0, Boot: 8, Stamp: 100, Vals: []int{7}}}, unsync(), restart(), restart(), missing())
		for range horizon - 1 {
			checkTick(t, s, nil, unsync(), restart(), restart(), missing())
		}
		checkTick(t, s, nil, unsync(), missing(), missing(), missing())
		checkCounts(t, s, 0, map[int]int{api.Fresh: 2, api.Again: 1, api.Lost: 3})
	}
}

// P15.1: a time that is known within more than twice Bound is Lost.
func TestLost(t *testing.T) {
	for bound, what := range map[int]int{7: api.Placed, 6: api.Lost} {
		c := usual()
		c.Bound = bound // the first packet's time is known within 14
		s := ingest.New(c)
		quiet(s, 11)
		want := missing()
		s.Tick([]api.Packet{{Stamp: 100, Vals: []int{7}}})
		if what == api.Placed {
			want = val(7, 0)
		}
		checkTick(t, s, nil, want)
		checkCounts(t, s, 0, map[int]int{api.Fresh: 1, what: 1})
	}
}

// P15.1: Late, Taken and Placed; what was there first stays.
func TestPlaces(t *testing.T) {
	c := usual()
	c.Horizon, c.Max, c.Window = 4, 30, 100
	s := ingest.New(c)
	quiet(s, 11)
	// The clock differs by -19 to 20, then, as the packet with number 49 tells, by 1 to 20.
	checkTick(t, s, []api.Packet{{Seq: 50, Stamp: 100, Vals: []int{7}}}, missing())
	checkTick(t, s, []api.Packet{
		{Seq: 52, Stamp: 99, Vals: []int{5}},       // tick 11, where number 51 was put
		{Seq: 51, Stamp: 101, Vals: []int{4}},      // tick 11
		{Seq: 49, Stamp: 70, Vals: []int{1, 2, 3}}, // tick 8, which was told, 9, and 10, where number 50 was put
	}, val(2, 8*49+1))
	checkTick(t, s, nil, val(7, 8*50))
	checkTick(t, s, nil, val(4, 8*51))
	checkTick(t, s, nil, missing())
	checkCounts(t, s, 0, map[int]int{api.Fresh: 4, api.Late: 1, api.Taken: 2, api.Placed: 3})
}

// P15.1: a packet that does not go together with what was known of the clock counts alone.
func TestClockAnew(t *testing.T) {
	s := ingest.New(usual())
	quiet(s, 11)
	checkTick(t, s, []api.Packet{{Seq: 1, Stamp: 100, Vals: []int{7}}}, missing())
	// It was from 6 to 20; now it is from 26 to 40, and the time nearest to tick 12.
	checkTick(t, s, []api.Packet{{Seq: 2, Stamp: 90, Vals: []int{8}}}, val(7, 8))
	checkTick(t, s, nil, val(8, 16))
	checkCounts(t, s, 0, map[int]int{api.Fresh: 2, api.Placed: 2})
}

// P15.1: the least of a clock's differences that both packets tell counts for both.
func TestClockNarrows(t *testing.T) {
	c := usual()
	c.Bound = 4
	s := ingest.New(c)
	quiet(s, 11)
	checkTick(t, s, []api.Packet{{Seq: 1, Stamp: 100, Vals: []int{7}}}, missing()) // from 6 to 20: Lost
	checkTick(t, s, []api.Packet{{Seq: 2, Stamp: 104, Vals: []int{8}}}, missing()) // and from 12 to 26: Placed, at 12
	checkTick(t, s, nil, val(8, 16))
	checkCounts(t, s, 0, map[int]int{api.Fresh: 2, api.Lost: 1, api.Placed: 1})
}

// model is what the chapter tells, with samples kept in a map.
type model struct {
	c       api.Conf
	ticks   int
	tracks  []api.Track
	ests    []api.Est
	began   []int
	samples map[[2]int]api.Sample
	counts  api.Counts
}

func newModel(c api.Conf) *model {
	m := &model{c: c, samples: map[[2]int]api.Sample{}}
	for range c.Steps {
		m.tracks, m.ests, m.began = append(m.tracks, track.None()), append(m.ests, api.Est{}), append(m.began, 0)
	}
	return m
}

func (m *model) first() int { return max(0, m.ticks-m.c.Horizon) }

func (m *model) put(ch, k int, s api.Sample) int {
	_, has := m.samples[[2]int{ch, k}]
	switch {
	case k < m.first():
		return api.Late
	case k >= m.first()+m.c.Cap:
		return api.Over
	case has:
		return api.Taken
	}
	m.samples[[2]int{ch, k}] = s
	return api.Placed
}

func (m *model) take(p api.Packet) {
	if p.Dev >= len(m.c.Steps) || p.Chan >= len(m.c.Steps[p.Dev]) {
		m.counts.Unknown++
		return
	}
	ch := p.Chan
	for _, steps := range m.c.Steps[:p.Dev] {
		ch += len(steps)
	}
	step := m.c.Steps[p.Dev][p.Chan]
	tr, number, what := track.Offer(m.tracks[p.Dev], m.c.Window, p.Boot, p.Seq)
	m.tracks[p.Dev] = tr
	m.counts.By[what]++
	if what == api.Again {
		m.ests[p.Dev], m.began[p.Dev] = api.Est{}, m.ticks
	} else if what != api.Fresh {
		return
	}
	m.ests[p.Dev], _ = skew.Look(m.c, m.ests[p.Dev], p.Stamp+step*(len(p.Vals)-1), m.ticks)
	for i, v := range p.Vals {
		lo, hi, _ := skew.At(m.c, m.ests[p.Dev], p.Stamp+i*step)
		k, is := tick.Place(m.c, lo, hi)
		what := api.Lost
		if is {
			what = m.put(ch, k, api.Sample{V: v, From: 8*number + i})
		}
		m.counts.By[what]++
	}
}

func (m *model) tick(l []api.Packet) []api.Cell {
	m.ticks++
	for _, p := range batch.Order(slices.Clone(m.tracks), l) {
		m.take(p)
	}
	if m.ticks < m.c.Horizon {
		return nil
	}
	var cells []api.Cell
	for dev, steps := range m.c.Steps {
		for range steps {
			s, has := m.samples[[2]int{len(cells), m.ticks - m.c.Horizon}]
			switch {
			case has:
				cells = append(cells, val(s.V, s.From))
			case m.began[dev] > m.ticks-m.c.Horizon:
				cells = append(cells, restart())
			case !m.ests[dev].On:
				cells = append(cells, unsync())
			default:
				cells = append(cells, missing())
			}
		}
	}
	return cells
}

func randomSetting(rnd *rand.Rand) api.Conf {
	c := api.Conf{Period: 1 + rnd.Intn(20), Horizon: 1 + rnd.Intn(8), Rho: []int{0, 0, 100, 5000}[rnd.Intn(4)], Bound: rnd.Intn(80), Window: 1 + rnd.Intn(20), Stale: 3}
	c.Cap = c.Horizon + 1 + rnd.Intn(10)
	c.Min = rnd.Intn(3 * c.Period)
	c.Max = c.Min + rnd.Intn(3*c.Period)
	for range 1 + rnd.Intn(4) {
		var steps []int
		for range 1 + rnd.Intn(4) {
			steps = append(steps, 1+rnd.Intn(2*c.Period))
		}
		c.Steps = append(c.Steps, steps)
	}
	return c
}

// random is a tick's packets, mostly such as may be.
func random(rnd *rand.Rand, c api.Conf, now int) []api.Packet {
	var l []api.Packet
	for range rnd.Intn(4) {
		p := api.Packet{Dev: rnd.Intn(len(c.Steps)), Boot: (255 + now/40) % 256, Seq: (65530 + now + rnd.Intn(9)) % 65536}
		p.Chan = rnd.Intn(len(c.Steps[p.Dev]))
		p.Stamp = max(0, 500*p.Dev+now*c.Period+rnd.Intn(4*c.Period)-2*c.Period)
		switch rnd.Intn(12) {
		case 0:
			p.Dev = rnd.Intn(6)
		case 1:
			p.Chan = rnd.Intn(6)
		case 2:
			p.Boot = (p.Boot + rnd.Intn(3)) % 256
		case 3:
			p.Seq = rnd.Intn(65536)
		case 4:
			p.Stamp = rnd.Intn(100_000)
		}
		for range 1 + rnd.Intn(8) {
			p.Vals = append(p.Vals, rnd.Intn(200)-100)
		}
		l = append(l, p)
	}
	return l
}

// shuffled is l in another order, with copies.
func shuffled(rnd *rand.Rand, l []api.Packet) []api.Packet {
	other := slices.Clone(l)
	for range rnd.Intn(3) {
		if len(l) > 0 {
			other = append(other, l[rnd.Intn(len(l))])
		}
	}
	rnd.Shuffle(len(other), func(i, k int) { other[i], other[k] = other[k], other[i] })
	return other
}

// P15.1, P15.2, P15.4: whatever comes is as the chapter tells it, in whatever order, and all is counted.
func TestWhateverComes(t *testing.T) {
	rnd := rand.New(rand.NewSource(1))
	for range 150 {
		c := randomSetting(rnd)
		s, other, m := ingest.New(c), ingest.New(c), newModel(c)
		for now := range 120 {
			l := random(rnd, c, now)
			want := m.tick(l)
			checkTick(t, s, l, want...)
			checkTick(t, other, shuffled(rnd, l), want...)
			if s.Counts() != m.counts || other.Counts() != m.counts {
				t.Fatal(s.Counts(), other.Counts(), m.counts)
			}
		}
	}
}

// P15.4: each value of a packet that is Fresh or Again is Late, Over, Taken, Placed or Lost.
func TestAllCounted(t *testing.T) {
	rnd := rand.New(rand.NewSource(2))
	for range 60 {
		c := randomSetting(rnd)
		s := ingest.New(c)
		for now := range 100 {
			// One packet a tick, so that it can be told by the counts what became of it.
			l := random(rnd, c, now)
			if len(l) == 0 {
				continue
			}
			before := s.Counts()
			s.Tick(l[:1])
			after := s.Counts()
			taken := after.By[api.Fresh] + after.By[api.Again] - before.By[api.Fresh] - before.By[api.Again]
			all := 0
			for what := range after.By {
				if what >= api.Late {
					all += after.By[what] - before.By[what]
				}
			}
			if all != taken*len(l[0].Vals) {
				t.Fatal(l[0], before, after)
			}
			packets := after.Unknown - before.Unknown
			for what := api.Fresh; what <= api.Stray; what++ {
				packets += after.By[what] - before.By[what]
			}
			if packets != 1 || after.By[0] != 0 {
				t.Fatal(l[0], before, after)
			}
		}
	}
}

// truth is a sample: its value, and when it was taken by the monitor's clock.
type truth struct{ v, at int }

// P15.3: with a clock that differs by one number always, and delays as is promised, each sample told is true, and near.
func TestTrue(t *testing.T) {
	rnd := rand.New(rand.NewSource(3))
	told := 0
	for range 150 {
		c := randomSetting(rnd)
		c.Bound, c.Window = c.Max-c.Min+c.Period+rnd.Intn(5), 1000
		const ticks = 150
		differ := 200 + rnd.Intn(1000)
		truths := map[string]truth{}
		ticksOf := map[int][]api.Packet{}
		for seq := range 100 {
			ch := rnd.Intn(len(c.Steps[0]))
			step := c.Steps[0][ch]
			p := api.Packet{Chan: ch, Boot: 5, Seq: seq, Stamp: rnd.Intn(ticks * c.Period)}
			for i := range 1 + rnd.Intn(4) {
				p.Vals = append(p.Vals, rnd.Intn(1000))
				truths[fmt.Sprint(ch, 8*seq+i)] = truth{p.Vals[i], p.Stamp + i*step + differ}
			}
			last := p.Stamp + (len(p.Vals)-1)*step
			came := last + differ + c.Min + rnd.Intn(c.Max-c.Min+1)
			at := (came + c.Period - 1) / c.Period
			ticksOf[at] = append(ticksOf[at], p)
		}
		s := ingest.New(c)
		for at := 1; at < ticks+1500/c.Period+60; at++ {
			cells := s.Tick(ticksOf[at])
			for ch, cell := range cells {
				if cell.Kind != api.Val {
					continue
				}
				told++
				want, is := truths[fmt.Sprint(ch, cell.From)]
				off := (at-c.Horizon)*c.Period - want.at
				if !is || want.v != cell.V || 2*max(off, -off) > 2*c.Bound+c.Period {
					t.Fatal(c, ch, cell, want, at-c.Horizon)
				}
			}
		}
	}
	if told < 500 {
		t.Error("too few samples told to say", told)
	}
}

// P3: what is handed in stays as it was, its spare room too; what is told stays as it was; states are apart.
func TestNewMemory(t *testing.T) {
	s, other := ingest.New(usual()), ingest.New(usual())
	quiet(s, 11)
	quiet(other, 11)
	all := []api.Packet{{Boot: 9, Seq: 5, Stamp: 110, Vals: []int{8}}, {Boot: 9, Seq: 4, Stamp: 100, Vals: []int{7}}, {Boot: 9, Seq: 6, Stamp: 120, Vals: []int{99}}}
	told := s.Tick(all[:2])
	if all[0].Seq != 5 || all[1].Seq != 4 || all[2].Seq != 6 || all[0].Vals[0] != 8 || all[1].Vals[0] != 7 {
		t.Error(all)
	}
	all[0], all[1] = api.Packet{}, api.Packet{}
	next := s.Tick(nil)
	if !slices.Equal(told, []api.Cell{missing()}) || !slices.Equal(next, []api.Cell{val(7, 32)}) {
		t.Error(told, next)
	}
	next = next[:cap(next)]
	for i := range next {
		next[i] = val(1, 1)
	}
	checkTick(t, s, nil, val(8, 40))
	checkTick(t, other, nil, unsync())
	checkCounts(t, other, 0, nil)
	counts := s.Counts()
	counts.By[api.Fresh] = 77
	if got := s.Counts(); got.By[api.Fresh] != 2 {
		t.Error(got)
	}
}
