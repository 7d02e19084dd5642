package run_test

import (
	"fmt"
	"math/rand/v2"
	"strings"
	"testing"

	"sherd/api"
	"sherd/run"
	"sherd/script"
)

func textIs(t *testing.T, text, want string) {
	t.Helper()
	if got := run.Text(text); got != want {
		t.Errorf("P25.3: Text of\n%.2000q\nis\n%.2000q, want\n%.2000q", text, got, want)
	}
}

// quoted is a key or a value in a line.
func quoted(bytes string) string {
	s := `"`
	for _, c := range []byte(bytes) {
		if c >= 0x20 && c <= 0x7e && c != '"' && c != '\\' {
			s += string(rune(c))
		} else {
			s += fmt.Sprintf(`\x%02x`, c)
		}
	}
	return s + `"`
}

// eventLine is chapter 19's.
func eventLine(e api.Event) string {
	kind, what := []string{"", "invoke", "return", "cancel"}[e.Kind], "get"
	if e.Put {
		what = "put"
	}
	s := fmt.Sprintf("%s %d %d %s %s", kind, e.Client, e.Op, what, quoted(e.Key))
	tag := fmt.Sprintf(" %d.%d", e.Tag.Count, e.Tag.Client)
	switch {
	case e.Kind == api.Invoke && e.Put:
		s += " " + quoted(string(e.Value))
	case e.Kind == api.Invoke:
	case e.Kind == api.Cancel && e.Put:
		s += tag
	case e.Kind == api.Cancel:
	case e.Status == api.ErrFull:
		s += " full"
	case e.Status == api.ErrAbsent:
		s += " absent"
	case e.Status != api.OK:
		s += fmt.Sprint(" wrong ", int(e.Status), tag)
	case e.Put:
		s += " ok" + tag
	default:
		s += " ok" + tag + " " + quoted(string(e.Value))
	}
	return s
}

// storyByWords is a story's text.
func storyByWords(s run.Story) string {
	var lines []string
	for i, told := range s.Told {
		if told.Err != 0 {
			lines = append(lines, fmt.Sprintf("step %d refused %d", i, int(told.Err)))
		}
		for _, e := range told.Events {
			lines = append(lines, fmt.Sprintf("step %d %s", i, eventLine(e)))
		}
	}
	lines = append(lines, fmt.Sprint("flight ", s.Flight), "up")
	for _, up := range s.Up {
		lines[len(lines)-1] += map[bool]string{true: " 1", false: " 0"}[up]
	}
	yes := map[bool]string{true: "yes", false: "no"}
	linear := yes[s.Linear]
	if s.Heavy {
		linear = "heavy"
	}
	lines = append(lines, "linear "+linear, "tags "+yes[s.ByTags], "")
	return strings.Join(lines, "\n")
}

// textByWords is what a script's text tells, line by line.
func textByWords(text string) string {
	lines := strings.Split(text, "\n")
	if n := len(lines) - 1; n > 0 && lines[n] == "" {
		lines = lines[:n]
	}
	c, clients, e := script.Config(lines[0])
	if e != 0 {
		return fmt.Sprintf("refused config %d\n", int(e))
	}
	if len(lines) > 4097 {
		return "refused line 1 2\n"
	}
	var steps []api.Step
	for i, line := range lines[1:] {
		one, _, e := script.Parse(line + "\n")
		if e != 0 {
			return fmt.Sprintf("refused line %d %d\n", i+1, int(e))
		}
		steps = append(steps, one...)
	}
	story, _ := run.Play(c, clients, steps)
	return storyByWords(story)
}

// TestExamplesOfText: the second, the third and the fifth of the chapter's examples.
func TestExamplesOfText(t *testing.T) {
	whole := "flight 0\nup 1\nlinear yes\ntags yes\n"
	for _, x := range []struct{ text, want string }{
		{"config 1 1 0 1\nput 1 6b 78\nround 6\ntick 2", "step 0 invoke 1 1 put \"k\" \"x\"\nstep 1 return 1 1 put \"k\" ok 1.1\nstep 2 refused 51\nflight 1\nup 1\nlinear yes\ntags yes\n"},
		{"", "refused config 82\n"},
		{"config 3 4 0 1", "refused config 40\n"},
		{"config 1 1 0 1\nx", "refused line 1 82\n"},
		{"config 1 1 0 256", "refused config 1\n"},
		{"config 1 1 0 1", whole},
		{"config 1 1 0 1\n", whole},
		{"config 1 1 4611686018427387903 0\n", whole},
	} {
		textIs(t, x.text, x.want)
		textIs(t, x.want, textByWords(x.want))
	}
}

func TestRefusedTexts(t *testing.T) {
	many := func(n int) string { return strings.Repeat("tick 1\n", n) }
	for _, x := range []struct{ text, want string }{
		{"\n", "refused config 82\n"},
		{"\n\n", "refused config 82\n"},
		{"\nconfig 1 1 0 1\n", "refused config 82\n"},
		{"tick 1\n", "refused config 82\n"},
		{"config 1 1 0 1 \ntick 1\n", "refused config 82\n"},
		{"config 1 1 0 1\r\ntick 1\r\n", "refused config 82\n"},
		{"config 1 1 0 01\nx\n", "refused config 82\n"},
		{"config 0 0 0 1\nx\n", "refused config 40\n"}, // the config's is said first
		{"config 1 1 0 -1\nx\n", "refused config 1\n"},
		{"config 3 4 0 256\n" + many(4097), "refused config 40\n"},
		{"config 1 1 0 1\n\n", "refused line 1 82\n"},
		{"config 1 1 0 1\n\ntick 1", "refused line 1 82\n"},
		{"config 1 1 0 1\ntick 1\n\n", "refused line 2 82\n"},
		{"config 1 1 0 1\nconfig 1 1 0 1\n", "refused line 1 82\n"},
		{"config 1 1 0 1\ntick 1\ntick 1\ntick 01\nx\n", "refused line 3 82\n"},
		{"config 1 1 0 1\n" + many(4095) + "x", "refused line 4096 82\n"},
		{"config 1 1 0 1\n" + many(4096) + "x", "refused line 1 2\n"},
		{"config 1 1 0 1\n" + many(4097), "refused line 1 2\n"},
		{"config 1 1 0 1\n" + many(4096) + "\n", "refused line 1 2\n"},
		{"config 1 1 0 1\n" + strings.Repeat("x\n", 5000), "refused line 1 2\n"},
		{"config 1 1 0 1\nput 1 6b 78\nround 6\nburst 0 0 4294967296", "refused line 3 82\n"},
	} {
		textIs(t, x.text, x.want)
		textIs(t, x.text, textByWords(x.text))
	}
}

// TestTexts: lines of every kind, in their order.
func TestTexts(t *testing.T) {
	for _, x := range []struct {
		text []string
		want []string
	}{
		{[]string{"config 3 2 1 0", "crash 1", "round -1"}, []string{"step 1 refused 1", "flight 0", "up 1 0 1", "linear yes", "tags yes"}},
		{[]string{"config 1 1 0 2", "put 2 0a22 5c7e7f", "put 1 6b -", "round 6"}, []string{
			`step 0 invoke 2 1 put "\x0a\x22" "\x5c~\x7f"`, `step 1 invoke 1 1 put "k" ""`,
			`step 2 return 2 1 put "\x0a\x22" ok 1.2`, `step 2 return 1 1 put "k" ok 1.1`, "flight 2", "up 1", "linear yes", "tags yes"}},
		{[]string{"config 1 1 0 1", "get 1 6b", "get 1 6b", "round 2", "cancel 1", "get 1 6b", "cancel 1", "put 1 6b 00", "cancel 1"}, []string{
			`step 0 invoke 1 1 get "k"`, "step 1 refused 70", `step 2 return 1 1 get "k" absent`, "step 3 refused 71", `step 4 invoke 1 2 get "k"`,
			`step 5 cancel 1 2 get "k"`, `step 6 invoke 1 3 put "k" "\x00"`, `step 7 cancel 1 3 put "k" 0.0`, "flight 3", "up 1", "linear yes", "tags yes"}},
		{[]string{"config 2 1 0 1", "put 1 6b 76616c7565", "round 6", "get 1 6b", "round 4", "crash 0 1 2", "crash 0", "start 5", "stop 1", "tick 1"}, []string{
			`step 0 invoke 1 1 put "k" "value"`, `step 1 return 1 1 put "k" ok 1.1`, `step 2 invoke 1 2 get "k"`, `step 3 return 1 2 get "k" ok 1.1 "value"`,
			"step 5 refused 72", "step 6 refused 51", "step 8 refused 72", "flight 2", "up 0 1", "linear yes", "tags yes"}},
		{[]string{"config 1 1 0 1", "put 1 - 78", "put 1 6b " + strings.Repeat("00", 65537), "deliver 0", "round 4097", "compact 0"}, []string{
			"step 0 refused 74", "step 1 refused 75", "step 2 refused 50", "step 3 refused 1", "flight 0", "up 1", "linear yes", "tags yes"}},
	} {
		text, want := strings.Join(x.text, "\n"), strings.Join(x.want, "\n")+"\n"
		textIs(t, text, want)
		textIs(t, text+"\n", want)
		textIs(t, text, textByWords(text))
	}
}

// TestJustSoManyLines: a script of as many as may be is played.
func TestJustSoManyLines(t *testing.T) {
	want := "flight 0\nup 1\nlinear yes\ntags yes\n"
	textIs(t, "config 1 1 0 1\n"+strings.Repeat("tick 1\n", 4096), want)
	textIs(t, "config 1 1 0 1\n"+strings.Repeat("tick 1\n", 4095)+"tick 1", want)
}

func TestHeavyText(t *testing.T) {
	text := "config 1 1 0 1\n" + strings.Repeat("put 1 6b 78\nround 6\n", 25)
	if got := run.Text(text); !strings.HasSuffix(got, "\nup 1\nlinear heavy\ntags yes\n") {
		t.Errorf("P25.3: Text is %q", got)
	}
}

// TestNearScripts changes one byte of a script, takes one out, puts one in, or cuts it.
func TestNearScripts(t *testing.T) {
	text := "config 2 1 0 1\nput 1 6b 78\nround 2 -1\ncrash 1\ntick 9\nround 6\nget 1 6b\nround 3"
	for i := range len(text) + 1 {
		textIs(t, text[:i], textByWords(text[:i]))
		textIs(t, text[i:], textByWords(text[i:]))
		for _, c := range []byte("\n\r 0129-kx\x00\xff") {
			more := text[:i] + string([]byte{c}) + text[i:]
			textIs(t, more, textByWords(more))
			if i < len(text) {
				other := text[:i] + string([]byte{c}) + text[i+1:]
				textIs(t, other, textByWords(other))
			}
		}
		if i < len(text) {
			less := text[:i] + text[i+1:]
			textIs(t, less, textByWords(less))
		}
	}
}

// TestDrawnTexts: lines that are steps', and such as are not.
func TestDrawnTexts(t *testing.T) {
	r := rand.New(rand.NewPCG(25, 6))
	first := []string{"config 3 1 0 2", "config 1 1 0 1", "config 2 2 9 0", "config 3 4 0 1", "config 1 1 0 999", "", "config", "config 1 1 0 1"}
	rest := []string{"put 1 6b 78", "put 2 6b 79", "get 1 6b", "get 2 6a", "round 4", "round 1 3 -1", "deliver 3", "drop 1", "crash 0", "start 0", "die 1 2 1", "tick 1", "cancel 2", "stop 2", "burst 0 9 5", "lose 4", "compact 1", "double -1", "cut 0 3"}
	wrong := []string{"", "tick", "tick 1 ", "round", "x", "\x00", "config 1 1 0 1"}
	played := 0
	for range 2000 {
		lines := []string{first[r.IntN(len(first))]}
		for range r.IntN(30) {
			if r.IntN(60) == 0 {
				lines = append(lines, wrong[r.IntN(len(wrong))])
			} else {
				lines = append(lines, rest[r.IntN(len(rest))])
			}
		}
		text := strings.Join(lines, "\n") + strings.Repeat("\n", r.IntN(2))
		want := textByWords(text)
		textIs(t, text, want)
		if !strings.HasPrefix(want, "refused") {
			played++
		}
	}
	if played < 500 || played > 1900 {
		t.Errorf("the test says little: %d were played", played)
	}
}
