package script_test

import (
	"bytes"
	"fmt"
	"math/big"
	"regexp"
	"slices"
	"strconv"
	"strings"
	"testing"

	"sherd/api"
	"sherd/script"
)

// The chapter told a second time: its table as it stands there, of which lines are made by putting what is meant in each word's place, and read by an expression for each row.

// table has the lines as the chapter writes them.
var table = map[int]string{
	1: "put A KEY VALUE", 2: "get A KEY", 3: "cancel A", 4: "tick A", 5: "stop A", 6: "deliver A", 7: "drop A", 8: "double A",
	9: "burst A B PATTERN", 10: "cut A B", 11: "lose A", 12: "crash A C ..", 13: "start A", 14: "die A B C ..", 15: "compact A", 16: "round B C ..",
}

// has tells whether the lines of a kind have this word.
func has(kind int, word string) bool {
	return slices.Contains(strings.Split(table[kind], " "), word)
}

// whyNot is Check.
func whyNot(s api.Step) api.Errno {
	if table[s.Kind] == "" {
		return 32
	}
	for _, wrong := range []bool{
		s.A != 0 && !has(s.Kind, "A"),
		s.B != 0 && !has(s.Kind, "B"),
		s.Key != "" && !has(s.Kind, "KEY"),
		len(s.Value) != 0 && !has(s.Kind, "VALUE"),
		len(s.L) != 0 && !has(s.Kind, "C") && !has(s.Kind, "PATTERN"),
		has(s.Kind, "PATTERN") && len(s.L) != 1,
		has(s.Kind, "PATTERN") && len(s.L) == 1 && (s.L[0] < 0 || s.L[0] > 4294967295),
	} {
		if wrong {
			return 1
		}
	}
	return 0
}

func bytesTold(b string) string {
	if b == "" {
		return "-"
	}
	return fmt.Sprintf("%x", b)
}

// lineTold is the line of a step that may be.
func lineTold(s api.Step) string {
	var words []string
	for _, word := range strings.Split(table[s.Kind], " ") {
		switch word {
		case "A":
			words = append(words, fmt.Sprint(s.A))
		case "B":
			words = append(words, fmt.Sprint(s.B))
		case "KEY":
			words = append(words, bytesTold(s.Key))
		case "VALUE":
			words = append(words, bytesTold(string(s.Value)))
		case "PATTERN", "C":
			for _, c := range s.L {
				words = append(words, fmt.Sprint(c))
			}
		case "..":
		default:
			words = append(words, word)
		}
	}
	return strings.Join(words, " ")
}

const (
	numberForm = `(?:0|-?[1-9][0-9]*)`
	bytesForm  = `(?:-|(?:[0-9a-f][0-9a-f])+)`
)

var configForm = regexp.MustCompile(`\Aconfig(( ` + numberForm + `){4})\z`)

// forms has an expression for each row of the table.
var forms = func() map[int]*regexp.Regexp {
	all := map[int]*regexp.Regexp{}
	for kind, line := range table {
		for _, x := range [][2]string{
			{" A", ` (?P<A>` + numberForm + `)`},
			{" B", ` (?P<B>` + numberForm + `)`},
			{" KEY", ` (?P<KEY>` + bytesForm + `)`},
			{" VALUE", ` (?P<VALUE>` + bytesForm + `)`},
			{" PATTERN", `(?P<L> ` + numberForm + `)`},
			{" C ..", `(?P<L>(?: ` + numberForm + `)*)`},
		} {
			line = strings.Replace(line, x[0], x[1], 1)
		}
		all[kind] = regexp.MustCompile(`\A` + line + `\z`)
	}
	return all
}()

// intsTold is the numbers of such a text, if all are ints.
func intsTold(text string) ([]int, bool) {
	var all []int
	for _, word := range strings.Fields(text) {
		n, _ := new(big.Int).SetString(word, 10)
		if !n.IsInt64() {
			return nil, false
		}
		all = append(all, int(n.Int64()))
	}
	return all, true
}

func unhexTold(text string) string {
	var b []byte
	for ; len(text) > 1; text = text[2:] {
		n, _ := strconv.ParseUint(text[:2], 16, 8)
		b = append(b, byte(n))
	}
	return string(b)
}

// stepTold is the step with this line.
func stepTold(line string) (api.Step, bool) {
	for kind, form := range forms {
		parts := form.FindStringSubmatch(line)
		if parts == nil {
			continue
		}
		s := api.Step{Kind: kind}
		for i, name := range form.SubexpNames() {
			numbers := name == "A" || name == "B" || name == "L"
			var ns []int
			if numbers {
				var good bool
				if ns, good = intsTold(parts[i]); !good {
					return api.Step{}, false
				}
			}
			switch name {
			case "A":
				s.A = ns[0]
			case "B":
				s.B = ns[0]
			case "L":
				s.L = ns
			case "KEY":
				s.Key = unhexTold(parts[i])
			case "VALUE":
				s.Value = []byte(unhexTold(parts[i]))
			}
		}
		return s, whyNot(s) == 0
	}
	return api.Step{}, false
}

// parseTold is Parse.
func parseTold(text string) ([]api.Step, int, api.Errno) {
	lines := strings.Split(text, "\n")
	if lines[len(lines)-1] == "" {
		lines = lines[:len(lines)-1]
	}
	if len(lines) > 4096 {
		return nil, 0, 2
	}
	var steps []api.Step
	for i, line := range lines {
		s, good := stepTold(line)
		if !good {
			return nil, i, 82
		}
		steps = append(steps, s)
	}
	return steps, 0, 0
}

// configTold is Config.
func configTold(line string) (api.Config, int, api.Errno) {
	parts := configForm.FindStringSubmatch(line)
	if parts == nil {
		return api.Config{}, 0, 82
	}
	ns, good := intsTold(parts[1])
	if !good {
		return api.Config{}, 0, 82
	}
	n, k, delta, clients := ns[0], ns[1], ns[2], ns[3]
	if k < 1 || k > n || n > 255 || delta < 0 || delta > 1<<62-1 {
		return api.Config{}, 0, 40
	}
	if clients < 0 || clients > 255 {
		return api.Config{}, 0, 1
	}
	return api.Config{N: n, K: k, Delta: delta}, clients, 0
}

// short is anything in words, not too many.
func short(x any) string {
	s := fmt.Sprintf("%+v", x)
	return strconv.QuoteToASCII(s[:min(len(s), 400)])
}

func sameStep(a, b api.Step) bool {
	return a.Kind == b.Kind && a.A == b.A && a.B == b.B && a.Key == b.Key && bytes.Equal(a.Value, b.Value) && slices.Equal(a.L, b.L)
}

func sameSteps(a, b []api.Step) bool { return slices.EqualFunc(a, b, sameStep) }

// checkStep holds Check, Line and Text against the words, and Parse against Line; it is 1 if the step may be.
func checkStep(t *testing.T, s api.Step) int {
	t.Helper()
	why := whyNot(s)
	if e := script.Check(s); e != why {
		t.Fatalf("T1: Check(%s) is %d, want %d", short(s), int(e), int(why))
	}
	want := ""
	if why == 0 {
		want = lineTold(s)
	}
	line, e := script.Line(s)
	if line != want || e != why {
		t.Fatalf("T1: Line(%s) is %s, %d, want %s, %d", short(s), short(line), int(e), short(want), int(why))
	}
	text, e := script.Text([]api.Step{s})
	if why != 0 {
		if text != "" || e != why {
			t.Fatalf("T1: Text(%s) is %s, %d, want %d", short(s), short(text), int(e), int(why))
		}
		return 0
	}
	if text != want+"\n" || e != 0 {
		t.Fatalf("T1: Text(%s) is %s, %d, want %s and an end", short(s), short(text), int(e), short(want))
	}
	for _, given := range []string{line, text} {
		if back, n, e := script.Parse(given); !sameSteps(back, []api.Step{s}) || n != 0 || e != 0 {
			t.Fatalf("T2: Parse of the line of %s is %s, %d, %d", short(s), short(back), n, int(e))
		}
	}
	return 1
}

// checkText holds Text against the words, and Parse against Text.
func checkText(t *testing.T, steps []api.Step) {
	t.Helper()
	text, e := script.Text(steps)
	want := ""
	for _, s := range steps {
		if why := whyNot(s); why != 0 {
			if text != "" || e != why {
				t.Fatalf("T1: Text(%s) is %s, %d, want %d", short(steps), short(text), int(e), int(why))
			}
			return
		}
		want += lineTold(s) + "\n"
	}
	if text != want || e != 0 {
		t.Fatalf("T1: Text(%s) is %s, %d, want %s", short(steps), short(text), int(e), short(want))
	}
	for _, given := range []string{text, strings.TrimSuffix(text, "\n")} {
		if back, n, e := script.Parse(given); !sameSteps(back, steps) || n != 0 || e != 0 {
			t.Fatalf("T2: Parse of the text of %s is %s, %d, %d", short(steps), short(back), n, int(e))
		}
	}
}

// checkParse holds Parse against the words, and Text against Parse; it is 1 if the text is taken.
func checkParse(t *testing.T, text string) int {
	t.Helper()
	steps, n, e := script.Parse(text)
	want, at, why := parseTold(text)
	if !sameSteps(steps, want) || n != at || e != why {
		t.Fatalf("T1: Parse(%s) is %s, %d, %d, want %s, %d, %d", short(text), short(steps), n, int(e), short(want), at, int(why))
	}
	if e != 0 {
		return 0
	}
	back, e := script.Text(steps)
	if e != 0 || back != text && back != text+"\n" {
		t.Fatalf("T2: Text of what Parse(%s) gives is %s, %d", short(text), short(back), int(e))
	}
	return 1
}

// checkConfig holds Config against the words; it is 1 if the line is taken.
func checkConfig(t *testing.T, line string) int {
	t.Helper()
	c, clients, e := script.Config(line)
	want, many, why := configTold(line)
	if c != want || clients != many || e != why {
		t.Fatalf("T1: Config(%s) is %v, %d, %d, want %v, %d, %d", short(line), c, clients, int(e), want, many, int(why))
	}
	if e != 0 {
		return 0
	}
	return 1
}
