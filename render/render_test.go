package render_test

import (
	"math"
	"math/rand"
	"slices"
	"strconv"
	"strings"
	"testing"

	"telltale/api"
	"telltale/render"
)

func val(v, from int) api.Cell { return api.Cell{Kind: api.Val, V: v, From: from} }

func none(kind int) api.Cell { return api.Cell{Kind: kind} }

var (
	both    = api.Alarm{On: true, Now: true}
	on      = api.Alarm{On: true}
	now     = api.Alarm{Now: true}
	neither = api.Alarm{}
)

func alike(a, b api.Told) bool {
	return a.Tick == b.Tick && slices.Equal(a.Cells, b.Cells) && slices.Equal(a.Rules, b.Rules) && slices.Equal(a.Chans, b.Chans)
}

func isZero(x api.Told) bool {
	return x.Tick == 0 && len(x.Cells) == 0 && len(x.Rules) == 0 && len(x.Chans) == 0
}

// known are what may be told, with their lines.
func known() map[string]api.Told {
	return map[string]api.Told{
		"tick 5 v70@32 / / +":               {Tick: 5, Cells: []api.Cell{val(70, 32)}, Chans: []api.Alarm{both}},
		"tick 0 / /":                        {},
		"tick 10 m u r / + * ! - / - ! * +": {Tick: 10, Cells: []api.Cell{none(api.Missing), none(api.Unsync), none(api.Restart)}, Rules: []api.Alarm{both, on, now, neither}, Chans: []api.Alarm{neither, now, on, both}},
		"tick 1 / + /":                      {Tick: 1, Rules: []api.Alarm{both}},
		"tick 1 / / -":                      {Tick: 1, Chans: []api.Alarm{neither}},
		"tick 1 m / /":                      {Tick: 1, Cells: []api.Cell{none(api.Missing)}},
		"tick 2 v0@0 v-1@7 v-32768@0 v32767@100 / * * / !":                                                                 {Tick: 2, Cells: []api.Cell{val(0, 0), val(-1, 7), val(-32768, 0), val(32767, 100)}, Rules: []api.Alarm{on, on}, Chans: []api.Alarm{now}},
		"tick 9223372036854775807 v-9223372036854775808@9223372036854775807 v9223372036854775807@-9223372036854775808 / /": {Tick: math.MaxInt, Cells: []api.Cell{val(math.MinInt, math.MaxInt), val(math.MaxInt, math.MinInt)}},
	}
}

// P23.1: lines that are told by hand, there and back.
func TestKnownLines(t *testing.T) {
	for line, x := range known() {
		if !render.Right(x) {
			t.Error(x)
		}
		if got := render.Line(x); got != line {
			t.Errorf("%q, not %q", got, line)
		}
		if got, is := render.Read(line); !is || !alike(got, x) {
			t.Errorf("%q: %v, %v", line, got, is)
		}
	}
}

// P23.1: what may not be told has an empty line.
func TestNotRight(t *testing.T) {
	wrong := []api.Told{{Tick: -1}, {Tick: math.MinInt}}
	for _, cell := range []api.Cell{{}, none(5), none(-1), none(6), none(math.MinInt), none(math.MaxInt), {Kind: 0, V: 1}} {
		wrong = append(wrong, api.Told{Cells: []api.Cell{cell}}, api.Told{Cells: []api.Cell{val(1, 1), cell}}, api.Told{Cells: []api.Cell{cell, val(1, 1)}})
	}
	for kind := api.Missing; kind <= api.Restart; kind++ {
		for _, n := range []int{1, -1} {
			wrong = append(wrong, api.Told{Cells: []api.Cell{{Kind: kind, V: n}}}, api.Told{Cells: []api.Cell{val(1, 1), {Kind: kind, From: n}}})
		}
	}
	for _, x := range wrong {
		if render.Right(x) {
			t.Error(x)
		}
		if got := render.Line(x); got != "" {
			t.Errorf("%v: %q", x, got)
		}
		if got := render.Text([]api.Told{x}); got != "\n" {
			t.Errorf("%v: %q", x, got)
		}
	}
}

// P23.1, P23.2: what is no line, near as it may be.
func TestNoLines(t *testing.T) {
	for _, s := range []string{
		"", " ", "tick", "tick ", "tick 5", "tick 5 ", "tick 5 /", "tick 5 / ", "tick 5 / / ", " tick 5 / /", "tick  5 / /", "tick 5  / /", "tick 5 /  /", "tick 5 //", "tick 5/ /", "tick5 / /",
		"Tick 5 / /", "tock 5 / /", "5 / /", "tick / /", "tick x / /", "tick - / /", "tick -5 / /", "tick +5 / /", "tick 05 / /", "tick 00 / /", "tick -0 / /", "tick 5. / /", "tick 0x5 / /", "tick 1_0 / /", "tick 1e3 / /",
		"tick 9223372036854775808 / /", "tick 99999999999999999999 / /", "tick ５ / /",
		"tick 5 / / /", "tick 5 / / / +", "tick 5 + / /", "tick 5 / m /", "tick 5 / / m", "tick 5 / / v1@2", "tick 5 / ++ /", "tick 5 / / +-", "tick 5 / / x", "tick 5 / + + + / x",
		"tick 5 x / /", "tick 5 M / /", "tick 5 mm / /", "tick 5 m1 / /", "tick 5 m@ / /", "tick 5 u0@0 / /", "tick 5 r@ / /", "tick 5 v / /", "tick 5 v@ / /", "tick 5 v1 / /", "tick 5 v1@ / /", "tick 5 v@1 / /", "tick 5 1@2 / /",
		"tick 5 v1@2@3 / /", "tick 5 v1@@2 / /", "tick 5 v01@2 / /", "tick 5 v1@02 / /", "tick 5 v+1@2 / /", "tick 5 v1@+2 / /", "tick 5 v-0@2 / /", "tick 5 v1@-0 / /", "tick 5 v--1@2 / /", "tick 5 v 1@2 / /", "tick 5 v1 @2 / /", "tick 5 v1@2x / /", "tick 5 vx@2 / /",
		"tick 5 v9223372036854775808@0 / /", "tick 5 v0@-9223372036854775809 / /", "tick 5 v1_0@0 / /",
		"tick 5 / /\n", "\ntick 5 / /", "tick 5 / / +\n", "tick\t5 / /", "tick 5 / /\r", "tick 5 \xff / /", "tick 5 / \xff /", "tick 5 / / \x00", "tick 5 / / −", "tick 5 / /\u00a0+", "tick 5 v70@32 / / ＋",
	} {
		if x, is := render.Read(s); is || !isZero(x) {
			t.Errorf("%q: %v, %v", s, x, is)
		}
	}
}

func random(rnd *rand.Rand) api.Told {
	number := func() int {
		switch rnd.Intn(4) {
		case 0:
			return int(rnd.Uint64())
		case 1:
			return rnd.Intn(3) - 1
		}
		return rnd.Intn(2000) - 1000
	}
	x := api.Told{Tick: max(0, number())}
	for range rnd.Intn(4) {
		cell := none(1 + rnd.Intn(4))
		if cell.Kind == api.Val {
			cell.V, cell.From = number(), number()
		}
		x.Cells = append(x.Cells, cell)
	}
	alarm := func() api.Alarm { return api.Alarm{On: rnd.Intn(2) == 0, Now: rnd.Intn(2) == 0} }
	for range rnd.Intn(4) {
		x.Rules = append(x.Rules, alarm())
	}
	for range rnd.Intn(4) {
		x.Chans = append(x.Chans, alarm())
	}
	return x
}

// plainly is the line of what may be told.
func plainly(x api.Told) string {
	words := []string{"tick", strconv.Itoa(x.Tick)}
	for _, c := range x.Cells {
		switch c.Kind {
		case api.Val:
			words = append(words, "v"+strconv.Itoa(c.V)+"@"+strconv.Itoa(c.From))
		case api.Missing:
			words = append(words, "m")
		case api.Unsync:
			words = append(words, "u")
		case api.Restart:
			words = append(words, "r")
		}
	}
	for _, l := range [][]api.Alarm{x.Rules, x.Chans} {
		words = append(words, "/")
		for _, a := range l {
			words = append(words, map[api.Alarm]string{both: "+", on: "*", now: "!", neither: "-"}[a])
		}
	}
	return strings.Join(words, " ")
}

// P23.1, P23.2: a line is read to what it tells.
func TestThereAndBack(t *testing.T) {
	rnd := rand.New(rand.NewSource(1))
	for range 3000 {
		x := random(rnd)
		line := render.Line(x)
		if !render.Right(x) || line != plainly(x) {
			t.Fatal(x, line)
		}
		if got, is := render.Read(line); !is || !alike(got, x) {
			t.Fatal(x, line, got, is)
		}
	}
}

// P23.2: a text that is read is the line of what was read, and no other text is read.
func TestNoOtherText(t *testing.T) {
	rnd := rand.New(rand.NewSource(2))
	read := 0
	for range 20000 {
		b := []byte(plainly(random(rnd)))
		for range 1 + rnd.Intn(2) {
			at := rnd.Intn(len(b))
			c := " tickvmur@/+*!-0123456789\n"[rnd.Intn(26)]
			switch rnd.Intn(3) {
			case 0:
				b[at] = c
			case 1:
				b = slices.Insert(b, at, c)
			default:
				b = slices.Delete(b, at, at+1)
			}
		}
		x, is := render.Read(string(b))
		if is {
			read++
			if render.Line(x) != string(b) || !render.Right(x) || plainly(x) != string(b) {
				t.Fatalf("%q: %v", b, x)
			}
		} else if !isZero(x) {
			t.Fatalf("%q: %v", b, x)
		}
	}
	if read < 500 || read > 19500 {
		t.Error("too few to say", read)
	}
}

// P23.1: a text is of each its line, and a line feed behind it.
func TestText(t *testing.T) {
	if got := render.Text(nil); got != "" {
		t.Errorf("%q", got)
	}
	five, zero := api.Told{Tick: 5, Cells: []api.Cell{val(70, 32)}, Chans: []api.Alarm{both}}, api.Told{}
	if got := render.Text([]api.Told{five, {Tick: -1}, zero, five}); got != "tick 5 v70@32 / / +\n\ntick 0 / /\ntick 5 v70@32 / / +\n" {
		t.Errorf("%q", got)
	}
	rnd := rand.New(rand.NewSource(3))
	for range 200 {
		var l []api.Told
		want := ""
		for range rnd.Intn(5) {
			l = append(l, random(rnd))
			want += plainly(l[len(l)-1]) + "\n"
		}
		if got := render.Text(l); got != want {
			t.Fatalf("%q, not %q", got, want)
		}
	}
}

// P3: what is handed in stays as it was, and what comes out is new memory, each list its own.
func TestNewMemory(t *testing.T) {
	x := api.Told{Tick: 5, Cells: []api.Cell{val(70, 32), none(2)}, Rules: []api.Alarm{on, now}, Chans: []api.Alarm{both, neither}}
	line := render.Line(x)
	render.Text([]api.Told{x, x})
	if line != "tick 5 v70@32 m / * ! / + -" || render.Line(x) != line {
		t.Error(line, x)
	}
	one, _ := render.Read(line)
	two, _ := render.Read(line)
	cells, rules, chans := one.Cells[:cap(one.Cells)], one.Rules[:cap(one.Rules)], one.Chans[:cap(one.Chans)]
	for i := range cells {
		cells[i] = none(9)
	}
	for i := range rules {
		rules[i] = both
	}
	if !slices.Equal(one.Chans, x.Chans) {
		t.Error("lists share", one)
	}
	for i := range chans {
		chans[i] = now
	}
	if !slices.Equal(one.Rules, []api.Alarm{both, both}) {
		t.Error("lists share", one)
	}
	if !alike(two, x) {
		t.Error(two)
	}
}
