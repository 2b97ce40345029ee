package tech_test

import (
	"math"
	"math/rand"
	"slices"
	"testing"

	"telltale/api"
	"telltale/tech"
)

// alarms are written as they are told: + On and Now, * On alone, ! Now alone, - neither.
func alarms(text string) []api.Alarm {
	var l []api.Alarm
	for _, c := range text {
		l = append(l, map[rune]api.Alarm{'+': {On: true, Now: true}, '*': {On: true}, '!': {Now: true}, '-': {}}[c])
	}
	return l
}

// marks are written: the mark, or anything else.
func marks(mark rune, text string) []bool {
	var l []bool
	for _, c := range text {
		l = append(l, c == mark)
	}
	return l
}

// P20.1: what may be so, and what may not, of all small states and far ones.
func TestRight(t *testing.T) {
	for _, stale := range []int{1, 2, 3, 1000} {
		for _, run := range []int{math.MinInt, -1, 0, 1, 2, 3, 4, 999, 1000, 1001, math.MaxInt} {
			for bools := range 8 {
				s := api.Tech{Run: run, On: bools&1 > 0, Now: bools&2 > 0, Ok: bools&4 > 0}
				want := run >= 0 && run <= stale && s.Now == (run == stale)
				if s.Now && !s.On {
					want = false
				}
				if s.Ok && !(s.On && s.Now) {
					want = false
				}
				if got := tech.Right(stale, s); got != want {
					t.Error(stale, s, got)
				}
			}
		}
	}
	if !tech.Right(1, api.Tech{}) || !tech.Right(1000, api.Tech{}) {
		t.Error("a zero one")
	}
}

// P20.1: each step from each state that is right, by the chapter's words.
func TestStep(t *testing.T) {
	for _, stale := range []int{1, 2, 3, 1000} {
		for _, run := range []int{0, 1, 2, 3, 998, 999, 1000} {
			for bools := range 4 {
				s := api.Tech{Run: run, On: bools&1 > 0, Now: run == stale, Ok: bools&2 > 0}
				if !tech.Right(stale, s) {
					continue
				}
				for _, sample := range []bool{false, true} {
					for _, ack := range []bool{false, true} {
						want := s
						if sample {
							want.Run, want.Now = 0, false
						} else {
							if want.Run < stale {
								want.Run++
							}
							if want.Run == stale {
								want.On, want.Now = true, true
								if !s.Now {
									want.Ok = false
								}
							}
						}
						if ack && want.On {
							want.Ok = true
						}
						if want.On && want.Ok && !want.Now {
							want.On, want.Ok = false, false
						}
						got := tech.Step(stale, s, sample, ack)
						if got != want || !tech.Right(stale, got) {
							t.Fatalf("Step(%d, %v, %v, %v) = %v; want %v", stale, s, sample, ack, got, want)
						}
					}
				}
			}
		}
	}
}

// P20.1: the example, and rows that are told by hand; s is a sample, a an ack.
func TestSteps(t *testing.T) {
	for _, c := range []struct {
		stale                 int
		samples, acks, alarms string
	}{
		{2, "..s", "..a", "-+-"},
		{2, "..s", "", "-+*"},
		{2, "..ss", "...a", "-+*-"},
		{2, "..s", ".a.", "-+-"},
		{2, "...s", "..a.", "-++-"},
		{2, "..s", "a..", "-+*"},
		{3, "..s...", "", "-----+"},
		{1, "s.s.s", "", "-+*+*"},
		{1, "s.s.s", ".a.a.", "-+-+-"},
		{2, "..s.s", "...a.", "-+*--"},
		{2, "..s..s", "....a.", "-+**+-"},
		{2, "..s..s", "", "-+**+*"},
		{2, "..s..ss", ".....a.", "-+**+--"},
		{2, "..s..s", ".a....", "-+--+*"},
		{2, "", "aa", ""},
		{1, ".", "a", "+"},
		{1, ".s", "a", "+-"},
		{1, ".s", "..a", "+*"},
	} {
		if got := tech.Steps(c.stale, marks('s', c.samples), marks('a', c.acks)); !slices.Equal(got, alarms(c.alarms)) {
			t.Errorf("%v: %v", c, got)
		}
	}
	if got := tech.Steps(1, nil, nil); len(got) != 0 {
		t.Error(got)
	}
}

func random(rnd *rand.Rand) (int, []bool, []bool) {
	samples, acks := make([]bool, rnd.Intn(50)), make([]bool, rnd.Intn(55))
	often := 1 + rnd.Intn(5)
	for i := range samples {
		samples[i] = rnd.Intn(often+1) == 0
	}
	for i := range acks {
		acks[i] = rnd.Intn(5) == 0
	}
	return 1 + rnd.Intn(4), samples, acks
}

// P20.1: Steps are Step by step.
func TestStepsByStep(t *testing.T) {
	rnd := rand.New(rand.NewSource(1))
	for range 1000 {
		stale, samples, acks := random(rnd)
		got := tech.Steps(stale, samples, acks)
		if len(got) != len(samples) {
			t.Fatal(stale, samples, acks, got)
		}
		s := api.Tech{}
		for i, sample := range samples {
			s = tech.Step(stale, s, sample, i < len(acks) && acks[i])
			if got[i] != (api.Alarm{On: s.On, Now: s.Now}) {
				t.Fatal(stale, samples, acks, got)
			}
		}
	}
	if got := tech.Steps(1000, make([]bool, 1001), nil); got[998].Now || !got[999].Now || !got[1000].Now {
		t.Error("a thousand ticks")
	}
}

// P20.2, P20.3: told where no sample came for stale ticks; stays told until there was a sample, and an ack while it
// was told, but for one ahead of its being raised anew.
func TestWhatAlarmsAre(t *testing.T) {
	rnd := rand.New(rand.NewSource(2))
	for range 1500 {
		stale, samples, acks := random(rnd)
		got := tech.Steps(stale, samples, acks)
		for i := range got {
			silent := i+1 >= stale && !slices.Contains(samples[max(0, i+1-stale):i+1], true)
			if got[i].Now != silent || silent && !got[i].On {
				t.Fatal("told just then", stale, samples, i, got)
			}
		}
		raised := -1 // when it was raised last
		for i := range got {
			before := i > 0 && got[i-1].On
			if got[i].Now && (i == 0 || !got[i-1].Now) {
				raised = i
			}
			if got[i].Now {
				continue
			}
			acked := false
			for k := max(raised, 0); before && k <= i && k < len(acks); k++ {
				acked = acked || acks[k]
			}
			if got[i].On != (before && !acked) {
				t.Fatal("stays", stale, samples, acks, i, got)
			}
		}
	}
}

// P3: what is handed in stays as it was, and what comes out is new memory.
func TestNewMemory(t *testing.T) {
	samples, acks := []bool{false, true, true, false}, []bool{false, true, true, true}
	for range 2 {
		got := tech.Steps(1, samples[:2], acks[:1])
		if !slices.Equal(got, alarms("+*")) {
			t.Error(got)
		}
		got = got[:cap(got)]
		for i := range got {
			got[i] = api.Alarm{}
		}
	}
	if !slices.Equal(samples, []bool{false, true, true, false}) || !slices.Equal(acks, []bool{false, true, true, true}) {
		t.Error(samples, acks)
	}
}
