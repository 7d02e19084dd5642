package script_test

import (
	"fmt"
	"math"
	"math/rand/v2"
	"strings"
	"testing"

	"sherd/api"
	"sherd/script"
)

// rows has a step of each kind with its line, and the edges of each part.
func rows() map[string]api.Step {
	return map[string]api.Step{
		"put 1 6b 78":                  {Kind: api.SPut, A: 1, Key: "k", Value: []byte("x")},
		"put 1 6b -":                   {Kind: api.SPut, A: 1, Key: "k"},
		"put 0 - -":                    {Kind: api.SPut},
		"put -12 0a20 00ff7f80":        {Kind: api.SPut, A: -12, Key: "\n ", Value: []byte{0, 0xff, 0x7f, 0x80}},
		"get -3 -":                     {Kind: api.SGet, A: -3},
		"get 7 2d":                     {Kind: api.SGet, A: 7, Key: "-"},
		"cancel 1":                     {Kind: api.SCancel, A: 1},
		"tick 255":                     {Kind: api.STick, A: 255},
		"stop 10":                      {Kind: api.SStop, A: 10},
		"deliver 9223372036854775807":  {Kind: api.SDeliver, A: math.MaxInt},
		"deliver -9223372036854775808": {Kind: api.SDeliver, A: math.MinInt},
		"drop -1":                      {Kind: api.SDrop, A: -1},
		"double 0":                     {Kind: api.SDouble},
		"burst 2 7 4294967295":         {Kind: api.SBurst, A: 2, B: 7, L: []int{math.MaxUint32}},
		"burst -2 -7 0":                {Kind: api.SBurst, A: -2, B: -7, L: []int{0}},
		"cut 2 100":                    {Kind: api.SCut, A: 2, B: 100},
		"lose 4":                       {Kind: api.SLose, A: 4},
		"crash 0":                      {Kind: api.SCrash},
		"crash 0 1 -1":                 {Kind: api.SCrash, L: []int{1, -1}},
		"crash 3 0":                    {Kind: api.SCrash, A: 3, L: []int{0}},
		"start 254":                    {Kind: api.SStart, A: 254},
		"die 1 2":                      {Kind: api.SDie, A: 1, B: 2},
		"die 1 2 1 0 -9223372036854775808 9223372036854775807": {Kind: api.SDie, A: 1, B: 2, L: []int{1, 0, math.MinInt, math.MaxInt}},
		"compact 1":   {Kind: api.SCompact, A: 1},
		"round 9 5":   {Kind: api.SRound, B: 9, L: []int{5}},
		"round -9":    {Kind: api.SRound, B: -9},
		"round 0 0 0": {Kind: api.SRound, L: []int{0, 0}},
	}
}

func TestLines(t *testing.T) {
	for line, s := range rows() {
		if e := script.Check(s); e != api.OK {
			t.Errorf("T1: Check(%+v) is %d", s, int(e))
		}
		if got, e := script.Line(s); got != line || e != api.OK {
			t.Errorf("T1: Line(%+v) is %q, %d, want %q", s, got, int(e), line)
		}
		if got, e := script.Text([]api.Step{s, s}); got != line+"\n"+line+"\n" || e != api.OK {
			t.Errorf("T1: Text of %+v twice is %q, %d", s, got, int(e))
		}
		for _, text := range []string{line, line + "\n"} {
			if back, n, e := script.Parse(text); !sameSteps(back, []api.Step{s}) || n != 0 || e != api.OK {
				t.Errorf("T2: Parse(%q) is %+v, %d, %d", text, back, n, int(e))
			}
		}
	}
	if text, e := script.Text(nil); text != "" || e != api.OK {
		t.Errorf("T1: Text of none is %q, %d", text, int(e))
	}
}

// TestStepsThatMayNotBe: the second of the chapter's examples, and what each kind's line does not have.
func TestStepsThatMayNotBe(t *testing.T) {
	for _, s := range []api.Step{
		{}, {Kind: 17}, {Kind: -1}, {Kind: math.MinInt}, {Kind: math.MaxInt}, {Kind: 272}, {Kind: 0, A: 1, L: []int{1}}, {Kind: 17, Value: []byte("x")},
	} {
		if line, e := script.Line(s); line != "" || e != api.ErrKind || script.Check(s) != api.ErrKind {
			t.Errorf("T1: Line(%+v) is %q, %d, Check %d, want 32", s, line, int(e), int(script.Check(s)))
		}
	}
	for _, s := range []api.Step{
		{Kind: api.SGet, Value: []byte{0}}, {Kind: api.SRound, A: 1}, {Kind: api.SRound, A: -1, B: 1},
		{Kind: api.SBurst}, {Kind: api.SBurst, L: []int{}}, {Kind: api.SBurst, L: []int{0, 0}}, {Kind: api.SBurst, L: []int{1, 2}}, {Kind: api.SBurst, L: []int{-1}}, {Kind: api.SBurst, L: []int{1 << 32}}, {Kind: api.SBurst, L: []int{math.MinInt}}, {Kind: api.SBurst, L: []int{math.MaxInt}},
		{Kind: api.STick, L: []int{0}}, {Kind: api.STick, Key: "\x00"}, {Kind: api.SPut, B: 1}, {Kind: api.SPut, L: []int{0}}, {Kind: api.SStart, B: -1}, {Kind: api.SCrash, B: 1}, {Kind: api.SCut, L: []int{0}}, {Kind: api.SDie, Key: "k"}, {Kind: api.SRound, Value: []byte("x")},
	} {
		if line, e := script.Line(s); line != "" || e != api.ErrArg || script.Check(s) != api.ErrArg {
			t.Errorf("T1: Line(%+v) is %q, %d, Check %d, want 1", s, line, int(e), int(script.Check(s)))
		}
	}
}

// TestEachStep goes through all steps of a few values of each field, at and beside each edge.
func TestEachStep(t *testing.T) {
	numbers := []int{math.MinInt, -1, 0, 1, math.MaxInt}
	keys := []string{"", "k", "\x00\xff\n", strings.Repeat("y", api.MaxKey+1)}
	values := [][]byte{nil, {}, {0}, []byte("-"), make([]byte, 3000)}
	lists := [][]int{nil, {}, {0}, {-1}, {math.MaxUint32}, {math.MaxUint32 + 1}, {math.MinInt}, {math.MaxInt}, {0, 0}, {math.MaxUint32, 1}, {1, -1, 5}}
	kinds := []int{math.MinInt, -16, -1, math.MaxInt}
	for kind := range 20 {
		kinds = append(kinds, kind)
	}
	good := 0
	for _, kind := range kinds {
		for _, a := range numbers {
			for _, b := range numbers {
				for _, key := range keys {
					for _, value := range values {
						for _, l := range lists {
							good += checkStep(t, api.Step{Kind: kind, A: a, B: b, Key: key, Value: value, L: l})
						}
					}
				}
			}
		}
	}
	// Where no value may be it may be nil or empty, and so may a list: 2 ways each.
	const alone, list = 9 * 5 * 2 * 2, 11 * 2
	if want := 5*4*5*2 + 5*4*2*2 + alone + 5*5*2*2 + 25*2*2 + 5*list + 25*list + 5*list; good != want {
		t.Errorf("%d steps may be, want %d", good, want)
	}
}

// TestEachByte: each byte in a key and in a value, alone and between others.
func TestEachByte(t *testing.T) {
	for c := range 256 {
		b := string([]byte{byte(c)})
		for _, s := range []string{b, "x" + b + "x", b + b, b + "\x00", "\xff" + b} {
			checkStep(t, api.Step{Kind: api.SPut, A: c, Key: s, Value: []byte(s)})
			checkStep(t, api.Step{Kind: api.SGet, A: -c, Key: s})
		}
	}
}

// TestLong: keys, values and lists of any length are written and read.
func TestLong(t *testing.T) {
	for _, n := range []int{api.MaxKey, api.MaxKey + 1, api.MaxValue, api.MaxValue + 1, 1 << 20} {
		s := api.Step{Kind: api.SPut, A: 1, Key: strings.Repeat("\x0f\xf0", n/2), Value: []byte(strings.Repeat("\x80", n))}
		line, e := script.Line(s)
		if want := "put 1 " + strings.Repeat("0ff0", n/2) + " " + strings.Repeat("80", n); line != want || e != api.OK {
			t.Fatalf("T1: the line of a value of %d bytes is %s, %d", n, short(line), int(e))
		}
		if back, at, e := script.Parse(line); !sameSteps(back, []api.Step{s}) || at != 0 || e != api.OK {
			t.Errorf("T2: a value of %d bytes does not come back: %d, %d", n, at, int(e))
		}
		l := make([]int, n)
		for i := range l {
			l[i] = i * 0x123456789abcdef
		}
		for _, kind := range []int{api.SCrash, api.SDie, api.SRound} {
			s := api.Step{Kind: kind, L: l}
			line, e := script.Line(s)
			if e != api.OK || strings.Count(line, " ") < n {
				t.Fatalf("T1: the line of a list of %d elements is %s, %d", n, short(line), int(e))
			}
			if back, at, e := script.Parse(line); !sameSteps(back, []api.Step{s}) || at != 0 || e != api.OK {
				t.Errorf("T2: a list of %d elements does not come back: %d, %d", n, at, int(e))
			}
		}
	}
}

// TestTheFirstThatMayNotBe: Text has the error of the first step that has one, but too many steps are looked at first.
func TestTheFirstThatMayNotBe(t *testing.T) {
	fine, kind, arg := api.Step{Kind: api.STick}, api.Step{Kind: 17}, api.Step{Kind: api.STick, B: 1}
	many := func(n int, s ...api.Step) []api.Step {
		for len(s) < n {
			s = append(s, fine)
		}
		return s
	}
	for _, x := range []struct {
		steps []api.Step
		why   api.Errno
	}{
		{[]api.Step{kind, arg}, api.ErrKind}, {[]api.Step{arg, kind}, api.ErrArg}, {[]api.Step{fine, fine, arg, fine, kind}, api.ErrArg}, {[]api.Step{fine, kind, fine}, api.ErrKind},
		{many(4095), api.OK}, {many(4096), api.OK}, {many(4097), api.ErrLong}, {many(9000), api.ErrLong}, {many(4096, kind), api.ErrKind}, {many(4097, kind), api.ErrLong}, {many(4097, arg, kind), api.ErrLong}, {append(many(4095), arg), api.ErrArg},
	} {
		text, e := script.Text(x.steps)
		want := ""
		if x.why == api.OK {
			want = strings.Repeat("tick 0\n", len(x.steps))
		}
		if text != want || e != x.why {
			t.Errorf("T1: Text of %d steps is %s, %d, want %d", len(x.steps), short(text), int(e), int(x.why))
		}
	}
}

// drawStep is a step, which now and then may not be.
func drawStep(r *rand.Rand) api.Step {
	number := func() int {
		switch r.IntN(4) {
		case 0:
			return r.IntN(3) - 1
		case 1:
			return int(r.Uint64())
		case 2:
			return int(r.Uint64() >> r.IntN(64))
		}
		return -int(r.Uint64() >> r.IntN(64))
	}
	s := api.Step{Kind: 1 + r.IntN(16)}
	odd := r.IntN(60) == 0
	if odd {
		s.Kind = r.IntN(18)
	}
	if has(s.Kind, "A") || odd {
		s.A = number()
	}
	if has(s.Kind, "B") || odd {
		s.B = number()
	}
	if has(s.Kind, "KEY") || odd {
		s.Key = string(drawBytes(r))
	}
	if has(s.Kind, "VALUE") || odd {
		s.Value = drawBytes(r)
	}
	if has(s.Kind, "C") || odd {
		for range r.IntN(4) {
			s.L = append(s.L, number())
		}
	}
	if has(s.Kind, "PATTERN") && !odd {
		s.L = []int{int(r.Uint32())}
	}
	return s
}

func drawBytes(r *rand.Rand) []byte {
	b := make([]byte, r.IntN(4))
	for i := range b {
		b[i] = byte(r.UintN(256))
	}
	return b
}

// TestDrawnLists: lists of steps come back from their texts, and no two have one text.
func TestDrawnLists(t *testing.T) {
	r := rand.New(rand.NewPCG(24, 1))
	of := map[string]string{}
	told := func(steps []api.Step) string {
		all := ""
		for _, s := range steps {
			all += fmt.Sprintf("%d %d %d %q %q %d;", s.Kind, s.A, s.B, s.Key, s.Value, s.L)
		}
		return all
	}
	taken := 0
	for range 30000 {
		var steps []api.Step
		for range r.IntN(5) {
			steps = append(steps, drawStep(r))
		}
		checkText(t, steps)
		text, e := script.Text(steps)
		if e != api.OK {
			continue
		}
		taken++
		if other, met := of[text]; met && other != told(steps) {
			t.Fatalf("T2: %q is the text of %s and of %s", text, other, told(steps))
		}
		of[text] = told(steps)
	}
	if taken < 25000 || len(of) < 20000 {
		t.Errorf("the test says little: %d lists may be, of %d texts", taken, len(of))
	}
}

// TestSmallLists goes through all lists of up to two steps of few values: no two of them have one text.
func TestSmallLists(t *testing.T) {
	var all []api.Step
	for kind := 1; kind <= 16; kind++ {
		for _, n := range []int{0, 1, 11} {
			for _, b := range []string{"", "\x11", "1"} {
				for _, l := range [][]int{nil, {1}, {11}, {1, 1}} {
					for _, s := range []api.Step{{Kind: kind, A: n, Key: b, L: l}, {Kind: kind, B: n, Value: []byte(b), L: l}, {Kind: kind, A: n, B: 1, Key: b, Value: []byte("1"), L: l}} {
						if script.Check(s) == api.OK && (len(all) == 0 || !anySame(all, s)) {
							all = append(all, s)
						}
					}
				}
			}
		}
	}
	met := map[string]bool{"": true} // the text of no steps
	for _, a := range all {
		lists := [][]api.Step{{a}}
		for _, b := range all {
			lists = append(lists, []api.Step{a, b})
		}
		for _, l := range lists {
			text, e := script.Text(l)
			if e != api.OK || met[text] {
				t.Fatalf("T2: Text(%s) is %q, %d, the text of another too", short(l), text, int(e))
			}
			met[text] = true
		}
	}
	if len(all) < 90 {
		t.Errorf("the test says little: %d steps", len(all))
	}
}

func anySame(all []api.Step, s api.Step) bool {
	for _, x := range all {
		if sameStep(x, s) {
			return true
		}
	}
	return false
}
