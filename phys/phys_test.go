package phys_test

import (
	"math"
	"math/rand"
	"slices"
	"testing"

	"telltale/api"
	"telltale/phys"
)

const (
	no   = api.False
	yes  = api.True
	open = api.Unknown
)

func hold(many int) api.Rule { return api.Rule{Hold: many} }

func latch(many int) api.Rule { return api.Rule{Hold: many, Latch: true} }

// alarms are written as they are told: + On and Now, * On alone, ! Now alone, - neither.
func alarms(text string) []api.Alarm {
	var l []api.Alarm
	for _, c := range text {
		l = append(l, map[rune]api.Alarm{'+': {On: true, Now: true}, '*': {On: true}, '!': {Now: true}, '-': {}}[c])
	}
	return l
}

// truths are written: T, F, and ? for Unknown.
func truths(text string) []int {
	var l []int
	for _, c := range text {
		l = append(l, map[rune]int{'T': yes, 'F': no, '?': open}[c])
	}
	return l
}

// acks are written: a, or a point.
func acks(text string) []bool {
	var l []bool
	for _, c := range text {
		l = append(l, c == 'a')
	}
	return l
}

// P19.1: what may be so, and what may not, of all small states and far ones.
func TestRight(t *testing.T) {
	for _, many := range []int{1, 2, 3, 1000} {
		for _, run := range []int{math.MinInt, -1, 0, 1, 2, 3, 4, 999, 1000, 1001, math.MaxInt} {
			for bools := range 4 {
				s := api.Phys{Run: run, On: bools&1 == 1, Now: bools&2 == 2}
				counts := run >= 0 && run <= many && s.Now == (run == many)
				if got := phys.Right(hold(many), s); got != (counts && s.On == s.Now) {
					t.Error(many, s, got)
				}
				if got := phys.Right(latch(many), s); got != (counts && (s.On || !s.Now)) {
					t.Error(many, s, got)
				}
			}
		}
	}
}

// P19.1: each step from each state that is right, by the chapter's words.
func TestStep(t *testing.T) {
	for _, many := range []int{1, 2, 3, 1000} {
		for _, r := range []api.Rule{hold(many), latch(many)} {
			for _, run := range []int{0, 1, 2, 3, 998, 999, 1000} {
				for _, on := range []bool{false, true} {
					s := api.Phys{Run: run, On: on, Now: run == many}
					if !phys.Right(r, s) {
						continue
					}
					for _, truth := range []int{no, yes, open, 0, 4, -1, math.MinInt, math.MaxInt} {
						for _, ack := range []bool{false, true} {
							want := s
							switch truth {
							case yes:
								if want.Run < many {
									want.Run++
								}
								if want.Run == many {
									want.On, want.Now = true, true
								}
							case no:
								want.Run, want.Now = 0, false
								if !r.Latch {
									want.On = false
								}
							}
							if ack && !want.Now {
								want.On = false
							}
							got := phys.Step(r, s, truth, ack)
							if got != want || !phys.Right(r, got) {
								t.Fatalf("Step(%v, %v, %d, %v) = %v; want %v", r, s, truth, ack, got, want)
							}
						}
					}
				}
			}
		}
	}
}

// P19.1: the example, and rows that are told by hand.
func TestSteps(t *testing.T) {
	for _, c := range []struct {
		r                    api.Rule
		truths, acks, alarms string
	}{
		{hold(2), "T?T", "", "--+"},
		{hold(2), "TTTFT", "", "-++--"},
		{hold(1), "TFTF", "", "+-+-"},
		{hold(1), "T??F?", "", "+++--"},
		{hold(3), "TTFTT?TT", "", "------++"},
		{hold(2), "TT?TF", "aaaaa", "-+++-"},
		{latch(2), "TTF?F", "", "-+***"},
		{latch(2), "TTFFF", "...a", "-+*--"},
		{latch(2), "TTFFF", "..a", "-+---"},
		{latch(2), "TTTFF", ".aa..", "-++**"},
		{latch(2), "TTF?F", "...a.", "-+*--"},
		{latch(2), "TTFTTF", "", "-+**+*"},
		{latch(2), "TTFTFa", "...a..", "-+*---"},
		{latch(1), "T?", ".a", "++"},
		{latch(1), "TF", "aa", "+-"},
		{hold(1), "", "", ""},
		{hold(1), "", "aaa", ""},
		{latch(1), "TF", ".....a", "+*"},
	} {
		if got := phys.Steps(c.r, truths(c.truths), acks(c.acks)); !slices.Equal(got, alarms(c.alarms)) {
			t.Errorf("%v: %v", c, got)
		}
	}
	if got := phys.Steps(hold(1), nil, nil); len(got) != 0 {
		t.Error(got)
	}
}

func random(rnd *rand.Rand) (api.Rule, []int, []bool) {
	r := api.Rule{Hold: 1 + rnd.Intn(4), Latch: rnd.Intn(2) == 0}
	l := make([]int, rnd.Intn(40))
	for i := range l {
		l[i] = []int{yes, yes, yes, no, open, open, 0, 9}[rnd.Intn(8)]
	}
	a := make([]bool, rnd.Intn(45))
	for i := range a {
		a[i] = rnd.Intn(4) == 0
	}
	return r, l, a
}

// P19.1: Steps are Step by step.
func TestStepsByStep(t *testing.T) {
	rnd := rand.New(rand.NewSource(1))
	for range 1000 {
		r, l, a := random(rnd)
		got := phys.Steps(r, l, a)
		if len(got) != len(l) {
			t.Fatal(r, l, a, got)
		}
		s := api.Phys{}
		for i, truth := range l {
			s = phys.Step(r, s, truth, i < len(a) && a[i])
			if got[i] != (api.Alarm{On: s.On, Now: s.Now}) {
				t.Fatal(r, l, a, got)
			}
		}
	}
	if got := phys.Steps(hold(1000), slices.Repeat([]int{yes}, 1001), nil); got[998].Now || !got[999].Now || !got[1000].Now {
		t.Error("a thousand Trues")
	}
}

// P19.2, P19.3, P19.4: what alarms are, by what came behind one another.
func TestWhatAlarmsAre(t *testing.T) {
	rnd := rand.New(rand.NewSource(2))
	for range 1500 {
		r, l, a := random(rnd)
		got := phys.Steps(r, l, a)
		for i := range got {
			trues := 0
			for _, truth := range slices.Backward(l[:i+1]) {
				if truth == no {
					break
				}
				if truth == yes {
					trues++
				}
			}
			if got[i].Now != (trues >= r.Hold) {
				t.Fatal("raised just by so many Trues", r, l, i, got)
			}
			before := api.Alarm{}
			if i > 0 {
				before = got[i-1]
			}
			ack := i < len(a) && a[i]
			if l[i] != yes && l[i] != no {
				if got[i].Now != before.Now || got[i].On && !before.On || !ack && got[i] != before {
					t.Fatal("an Unknown", r, l, a, i, got)
				}
			}
			if r.Latch && before.On && got[i].On != (got[i].Now || !ack) {
				t.Fatal("latched", r, l, a, i, got)
			}
			if !r.Latch && got[i].On != got[i].Now {
				t.Fatal("not latched", r, l, a, i, got)
			}
			if got[i].Now && !got[i].On {
				t.Fatal("not told", r, l, a, i, got)
			}
		}
	}
}

// P3: what is handed in stays as it was, and what comes out is new memory; of a rule's terms nothing is asked.
func TestNewMemory(t *testing.T) {
	l, a := []int{yes, no, 7, 7}, []bool{true, false, true, true}
	r := api.Rule{Hold: 1, Latch: true, Terms: []api.Term{{Op: 9}}}
	for range 2 {
		got := phys.Steps(r, l[:2], a[:2])
		if !slices.Equal(got, alarms("+*")) {
			t.Error(got)
		}
		got = got[:cap(got)]
		for i := range got {
			got[i] = api.Alarm{}
		}
	}
	if !slices.Equal(l, []int{yes, no, 7, 7}) || !slices.Equal(a, []bool{true, false, true, true}) || r.Terms[0].Op != 9 {
		t.Error(l, a, r)
	}
}
