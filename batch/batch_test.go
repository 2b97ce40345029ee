package batch_test

import (
	"bytes"
	"math/rand"
	"slices"
	"testing"

	"telltale/api"
	"telltale/batch"
	"telltale/pack"
	"telltale/track"
)

func alike(a, b api.Packet) bool {
	return a.Dev == b.Dev && a.Chan == b.Chan && a.Boot == b.Boot && a.Seq == b.Seq && a.Stamp == b.Stamp && slices.Equal(a.Vals, b.Vals)
}

func check(t *testing.T, tracks []api.Track, l []api.Packet, want ...api.Packet) {
	t.Helper()
	if got := batch.Order(tracks, l); !slices.EqualFunc(got, want, alike) {
		t.Fatalf("Order(%v, %v) = %v; want %v", tracks, l, got, want)
	}
}

// packet is one of a device, with a boot and a seq.
func packet(dev, boot, seq int) api.Packet {
	return api.Packet{Dev: dev, Boot: boot, Seq: seq, Stamp: 100, Vals: []int{5}}
}

func on(boot int, some ...int) api.Track {
	return api.Track{On: true, Boot: boot, Seen: api.Seen{Top: some[len(some)-1], Some: some}}
}

// P14.1: no packets, one, and the example: numbers 3, 1, 3.
func TestFew(t *testing.T) {
	check(t, nil, nil)
	check(t, []api.Track{on(3, 5)}, []api.Packet{})
	check(t, nil, []api.Packet{packet(0, 0, 3)}, packet(0, 0, 3))
	check(t, nil, []api.Packet{packet(0, 0, 3), packet(0, 0, 1), packet(0, 0, 3)}, packet(0, 0, 1), packet(0, 0, 3))
}

// P14.1: the device counts first, also one beyond the tracks.
func TestByDevice(t *testing.T) {
	tracks := []api.Track{on(3, 5), on(9, 70000)}
	l := []api.Packet{packet(255, 0, 0), packet(2, 0, 0), packet(1, 200, 9), packet(0, 200, 65535), packet(1, 9, 0), packet(0, 3, 5)}
	check(t, tracks, l, packet(0, 3, 5), packet(0, 200, 65535), packet(1, 9, 0), packet(1, 200, 9), packet(2, 0, 0), packet(255, 0, 0))
}

// P14.1: then the kin: the track's beginning, the next one, others.
func TestByKin(t *testing.T) {
	l := []api.Packet{packet(0, 7, 1), packet(0, 4, 2), packet(0, 3, 9), packet(0, 2, 0)}
	check(t, []api.Track{on(3, 5)}, l, packet(0, 3, 9), packet(0, 4, 2), packet(0, 2, 0), packet(0, 7, 1))
	l = []api.Packet{packet(0, 254, 0), packet(0, 0, 1), packet(0, 255, 2)}
	check(t, []api.Track{on(255, 5)}, l, packet(0, 255, 2), packet(0, 0, 1), packet(0, 254, 0))
	// Of a device of which nothing came all packets are alike in kin: numbers count.
	l = []api.Packet{packet(0, 1, 9), packet(0, 7, 2), packet(0, 3, 5)}
	check(t, []api.Track{track.None()}, l, packet(0, 7, 2), packet(0, 3, 5), packet(0, 1, 9))
	check(t, nil, l, packet(0, 7, 2), packet(0, 3, 5), packet(0, 1, 9))
	check(t, []api.Track{track.None(), on(3, 5)}, l, packet(0, 7, 2), packet(0, 3, 5), packet(0, 1, 9))
}

// P14.1: then the number, which goes on where what is sent begins anew; none is ahead of all.
func TestByNumber(t *testing.T) {
	l := []api.Packet{packet(0, 3, 2), packet(0, 3, 65535), packet(0, 3, 0), packet(0, 3, 65530)}
	check(t, []api.Track{on(3, 65534)}, l, packet(0, 3, 65530), packet(0, 3, 65535), packet(0, 3, 0), packet(0, 3, 2))
	check(t, []api.Track{on(3, 131070)}, l, packet(0, 3, 65530), packet(0, 3, 65535), packet(0, 3, 0), packet(0, 3, 2))
	check(t, []api.Track{on(3, 9)}, l, packet(0, 3, 65530), packet(0, 3, 65535), packet(0, 3, 0), packet(0, 3, 2))
	check(t, []api.Track{on(3, 40000)}, l, packet(0, 3, 65530), packet(0, 3, 65535), packet(0, 3, 0), packet(0, 3, 2))
	// Packets of the next beginning have their numbers as they are sent.
	l = []api.Packet{packet(0, 4, 65535), packet(0, 4, 0)}
	check(t, []api.Track{on(3, 65534)}, l, packet(0, 4, 0), packet(0, 4, 65535))
	// Of others the boot comes behind the number.
	l = []api.Packet{packet(0, 7, 9), packet(0, 9, 7), packet(0, 8, 8)}
	check(t, []api.Track{on(3, 65534)}, l, packet(0, 9, 7), packet(0, 8, 8), packet(0, 7, 9))
}

// P14.1: then the data, byte by byte: channel, boot, seq, stamp, values as they are sent.
func TestByData(t *testing.T) {
	of := func(ch, stamp int, vals ...int) api.Packet {
		return api.Packet{Chan: ch, Boot: 3, Seq: 6, Stamp: stamp, Vals: vals}
	}
	want := []api.Packet{of(0, 1, 9), of(0, 256, 1), of(0, 256, 1, 0), of(0, 256, 1, 0, 5), of(0, 256, 1, 1), of(0, 256, 2), of(0, 256, 32767), of(0, 256, -32768), of(0, 256, -1), of(0, 256, -1, 0), of(0, 1<<39, 0), of(1, 0, 0), of(200, 0, 0)}
	for shift := range want {
		l := append(slices.Clone(want[shift:]), want[:shift]...)
		check(t, []api.Track{on(3, 5)}, l, want...)
		slices.Reverse(l)
		check(t, nil, l, want...)
	}
	// Other kins and numbers alike: boots are in the data.
	check(t, []api.Track{on(3, 5)}, []api.Packet{packet(0, 9, 1), packet(0, 8, 1)}, packet(0, 8, 1), packet(0, 9, 1))
	check(t, nil, []api.Packet{packet(0, 9, 1), packet(0, 8, 1)}, packet(0, 8, 1), packet(0, 9, 1))
}

// P14.1: only whole copies are dropped.
func TestCopies(t *testing.T) {
	one := packet(0, 3, 6)
	var l []api.Packet
	change := []func(p *api.Packet){
		func(p *api.Packet) {}, func(p *api.Packet) { p.Dev = 1 }, func(p *api.Packet) { p.Chan = 1 }, func(p *api.Packet) { p.Boot = 4 }, func(p *api.Packet) { p.Seq = 7 },
		func(p *api.Packet) { p.Stamp = 101 }, func(p *api.Packet) { p.Vals = []int{6} }, func(p *api.Packet) { p.Vals = []int{5, 0} }, func(p *api.Packet) { p.Vals = []int{5, 5} },
	}
	for range 3 {
		for _, f := range change {
			p := one
			p.Vals = slices.Clone(one.Vals)
			f(&p)
			l = append(l, p)
		}
	}
	if got := batch.Order([]api.Track{on(3, 5)}, l); len(got) != len(change) {
		t.Error(len(got), got)
	}
}

// row is packets of a few devices, alike enough that all of the order counts.
func row(rnd *rand.Rand, many int) []api.Packet {
	var l []api.Packet
	for range many {
		p := api.Packet{Dev: rnd.Intn(3), Chan: rnd.Intn(2), Boot: (254 + rnd.Intn(5)) % 256, Seq: (65530 + rnd.Intn(12)) % 65536, Stamp: rnd.Intn(2) * 300}
		for range 1 + rnd.Intn(2) {
			p.Vals = append(p.Vals, rnd.Intn(3)-1)
		}
		l = append(l, p)
		if rnd.Intn(4) == 0 {
			l = append(l, l[rnd.Intn(len(l))])
		}
	}
	return l
}

func tracks(rnd *rand.Rand) []api.Track {
	var l []api.Track
	for range rnd.Intn(4) {
		if rnd.Intn(3) == 0 {
			l = append(l, track.None())
		} else {
			l = append(l, on((254+rnd.Intn(4))%256, []int{3, 65533, 65536, 131070}[rnd.Intn(4)]))
		}
	}
	return l
}

// ahead: does a stand ahead of b, by the chapter's words?
func ahead(l []api.Track, a, b api.Packet) bool {
	if a.Dev != b.Dev {
		return a.Dev < b.Dev
	}
	tr := track.None()
	if a.Dev < len(l) {
		tr = l[a.Dev]
	}
	kinA, a1 := track.Index(tr, a.Boot, a.Seq)
	kinB, b1 := track.Index(tr, b.Boot, b.Seq)
	if kinA != kinB {
		return kinA < kinB
	}
	if a1 != b1 {
		return a1 < b1
	}
	dataA, _ := pack.Data(a)
	dataB, _ := pack.Data(b)
	return bytes.Compare(dataA, dataB) < 0
}

// P14.1, P14.2, P14.3: rows of all kinds come out in order, whatever their order and copies were, with all packets and no other.
func TestRows(t *testing.T) {
	rnd := rand.New(rand.NewSource(1))
	for range 600 {
		tr, l := tracks(rnd), row(rnd, rnd.Intn(20))
		got := batch.Order(tr, l)
		for i := 1; i < len(got); i++ {
			if !ahead(tr, got[i-1], got[i]) {
				t.Fatal(tr, got[i-1], got[i])
			}
		}
		for _, p := range l {
			if !slices.ContainsFunc(got, func(q api.Packet) bool { return alike(p, q) }) {
				t.Fatal("missing", p)
			}
		}
		for _, p := range got {
			if !slices.ContainsFunc(l, func(q api.Packet) bool { return alike(p, q) }) {
				t.Fatal("none of the row", p)
			}
		}
		for range 3 {
			other := slices.Clone(l)
			for range rnd.Intn(4) {
				if len(l) > 0 {
					other = append(other, l[rnd.Intn(len(l))])
				}
			}
			rnd.Shuffle(len(other), func(i, k int) { other[i], other[k] = other[k], other[i] })
			check(t, tr, other, got...)
		}
	}
}

// P3: what is handed in stays as it was, its spare room too, and the list is new memory.
func TestNewMemory(t *testing.T) {
	all := []api.Packet{packet(0, 0, 3), packet(0, 0, 1), packet(0, 0, 2), packet(9, 9, 9), packet(8, 8, 8)}
	before := slices.Clone(all)
	tr := []api.Track{on(0, 1), on(5, 5)}
	got := batch.Order(tr, all[:3])
	got = got[:cap(got)]
	for i := range got {
		got[i] = packet(7, 7, 7)
	}
	if !slices.EqualFunc(all, before, alike) || tr[0].Seen.Top != 1 || !slices.Equal(tr[0].Seen.Some, []int{1}) || tr[1].Boot != 5 {
		t.Error(all, tr)
	}
	check(t, tr, all[:3], packet(0, 0, 1), packet(0, 0, 2), packet(0, 0, 3))
}
