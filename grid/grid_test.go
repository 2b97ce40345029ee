package grid_test

import (
	"math"
	"math/rand"
	"slices"
	"testing"

	"telltale/api"
	"telltale/grid"
)

func setting(room int, steps ...[]int) api.Conf {
	return api.Conf{Period: 10, Horizon: 1, Cap: room, Max: 15, Rho: 100, Bound: 40, Window: 64, Stale: 3, Steps: steps}
}

func val(v, from int) api.Cell { return api.Cell{Kind: api.Val, V: v, From: from} }

func sample(v, from int) api.Sample { return api.Sample{V: v, From: from} }

func checkTell(t *testing.T, g *grid.Grid, why []int, want ...api.Cell) {
	t.Helper()
	first := g.First()
	if got := g.Tell(why); !slices.Equal(got, want) {
		t.Fatalf("at %d: Tell(%v) = %v; want %v", first, why, got, want)
	}
	if g.First() != first+1 {
		t.Fatal(g.First(), first)
	}
}

// P13.1: the example, and reasons of each channel.
func TestNothingPlaced(t *testing.T) {
	g := grid.New(setting(4, []int{10}))
	if g.First() != 0 {
		t.Error(g.First())
	}
	checkTell(t, g, []int{2}, api.Cell{Kind: 2})
	g = grid.New(setting(4, []int{10, 20}, []int{5}))
	checkTell(t, g, []int{api.Missing, api.Unsync, api.Restart}, api.Cell{Kind: api.Missing}, api.Cell{Kind: api.Unsync}, api.Cell{Kind: api.Restart})
	checkTell(t, g, []int{4, 4, 2}, api.Cell{Kind: 4}, api.Cell{Kind: 4}, api.Cell{Kind: 2})
}

// P13.1: a sample is told with its value and which one it was, whatever the reason.
func TestSampleTold(t *testing.T) {
	g := grid.New(setting(4, []int{10, 20}, []int{5}))
	if got := g.Put(1, 0, sample(-70, 32)); got != api.Placed {
		t.Error(got)
	}
	if got := g.Put(2, 1, sample(0, 0)); got != api.Placed {
		t.Error(got)
	}
	checkTell(t, g, []int{2, 3, 4}, api.Cell{Kind: 2}, val(-70, 32), api.Cell{Kind: 4})
	checkTell(t, g, []int{2, 3, 4}, api.Cell{Kind: 2}, api.Cell{Kind: 3}, val(0, 0))
}

// P13.1: Late, Over, Taken and Placed, at the edges, as First goes on.
func TestPut(t *testing.T) {
	for _, room := range []int{2, 3, 33, 64} {
		g := grid.New(setting(room, []int{10}, []int{10}))
		for first := range 5 {
			for _, c := range []struct{ k, want int }{
				{first - 1, api.Late}, {first - 100, api.Late}, {-1 << 52, api.Late}, {first + room, api.Over}, {first + room + 1, api.Over}, {1 << 52, api.Over},
				{first + room - 1, api.Placed}, {first + room - 1, api.Taken},
			} {
				if got := g.Put(1, c.k, sample(c.k, first)); got != c.want {
					t.Fatal(room, first, c, got)
				}
			}
			want := api.Cell{Kind: 3}
			if first >= room-1 {
				want = val(first, first-room+1)
			}
			checkTell(t, g, []int{2, 3}, api.Cell{Kind: 2}, want)
		}
	}
}

// P13.1: of a channel that there is not nothing becomes, and nothing changes.
func TestPutElsewhere(t *testing.T) {
	g := grid.New(setting(4, []int{10, 20}, []int{5}))
	for _, ch := range []int{-1, 3, 4, 16, math.MinInt, math.MaxInt} {
		for _, k := range []int{-1, 0, 1, 4, 9} {
			if got := g.Put(ch, k, sample(1, 2)); got != 0 {
				t.Error(ch, k, got)
			}
		}
	}
	for range 4 {
		checkTell(t, g, []int{2, 2, 2}, api.Cell{Kind: 2}, api.Cell{Kind: 2}, api.Cell{Kind: 2})
	}
}

// P13.1: of another count of reasons none is told, and nothing changes.
func TestTellOtherCounts(t *testing.T) {
	g := grid.New(setting(4, []int{10, 20}, []int{5}))
	g.Put(0, 0, sample(7, 8))
	for _, why := range [][]int{nil, {}, {2}, {2, 2}, {2, 2, 2, 2}} {
		if got := g.Tell(why); len(got) != 0 || g.First() != 0 {
			t.Error(why, got, g.First())
		}
	}
	checkTell(t, g, []int{2, 3, 4}, val(7, 8), api.Cell{Kind: 3}, api.Cell{Kind: 4})
}

// P13.2: a sample that is placed is told at its tick, in its channel, once, and nowhere else.
func TestJustOnce(t *testing.T) {
	rnd := rand.New(rand.NewSource(1))
	for range 200 {
		room := 2 + rnd.Intn(8)
		g := grid.New(setting(room, []int{10, 20}, []int{5}))
		placed := map[[2]int]api.Sample{}
		first := 0
		for i := range 150 {
			if rnd.Intn(4) == 0 {
				why := []int{2 + rnd.Intn(3), 2 + rnd.Intn(3), 2 + rnd.Intn(3)}
				var want []api.Cell
				for ch := range 3 {
					if s, has := placed[[2]int{ch, first}]; has {
						want = append(want, val(s.V, s.From))
					} else {
						want = append(want, api.Cell{Kind: why[ch]})
					}
				}
				checkTell(t, g, why, want...)
				first++
				continue
			}
			ch, k, s := rnd.Intn(3), first-2+rnd.Intn(room+4), sample(rnd.Intn(99)-50, i)
			_, has := placed[[2]int{ch, k}]
			want := api.Placed
			switch {
			case k < first:
				want = api.Late
			case k >= first+room:
				want = api.Over
			case has:
				want = api.Taken
			}
			if got := g.Put(ch, k, s); got != want {
				t.Fatal(ch, k, first, got, want)
			}
			if want == api.Placed {
				placed[[2]int{ch, k}] = s
			}
		}
	}
}

// P13.2, P3: what was told stays as it was, is new memory, and grids don't share.
func TestNewMemory(t *testing.T) {
	one, two := grid.New(setting(4, []int{10})), grid.New(setting(4, []int{10}))
	one.Put(0, 1, sample(5, 6))
	why := []int{2, 9, 9}
	told := one.Tell(why[:1])
	if !slices.Equal(why, []int{2, 9, 9}) {
		t.Error(why)
	}
	why[0] = 4
	one.Put(0, 0, sample(1, 1))
	later := one.Tell([]int{3})
	if !slices.Equal(told, []api.Cell{{Kind: 2}}) || !slices.Equal(later, []api.Cell{val(5, 6)}) {
		t.Error(told, later)
	}
	for _, l := range [][]api.Cell{told[:cap(told)], later[:cap(later)]} {
		for i := range l {
			l[i] = val(99, 99)
		}
	}
	checkTell(t, one, []int{3}, api.Cell{Kind: 3})
	if two.First() != 0 {
		t.Error(two.First())
	}
	checkTell(t, two, []int{2}, api.Cell{Kind: 2})
	checkTell(t, two, []int{3}, api.Cell{Kind: 3})
}
