package history_test

import (
	"strings"
	"testing"

	"sherd/api"
	"sherd/history"
)

// goodLines has each kind of line, and edges of each part.
func goodLines() []string {
	return []string{
		`invoke 1 1 put "k" "a b\x0a"`,
		`invoke 12 3 put "\x22\x5c~" ""`,
		`invoke 65535 4611686018427387903 get "\x00 "`,
		`return 1 1 put "k" ok 1.1`,
		`return 1 1 put "k" ok 4611686018427387903.65535`,
		`return 10 20 put "put" full`,
		`return 1 1 get "k" ok 30.4 "\xff"`,
		`return 1 1 get "ok 1.1" ok 1.1 ""`,
		`return 1 1 get "k" absent`,
		`return 1 1 get "k" wrong 20 0.0`,
		`return 1 1 get "k" wrong 26 1.2`,
		`cancel 1 1 put "k" 0.0`,
		`cancel 1 1 put "k" 1.10`,
		`cancel 9 1 get "x22"`,
	}
}

func TestGoodLines(t *testing.T) {
	all := ""
	for _, line := range goodLines() {
		if _, _, e := history.Parse(line + "\n"); e != api.OK {
			t.Errorf("P19.5: Parse(%q) is %d", line, int(e))
		}
		checkParse(t, line+"\n")
		all += line + "\n"
		checkParse(t, all)
	}
}

// TestNearLines changes one byte of a line, takes one out, puts one in, takes two neighbours the other way round, or ends the line early.
func TestNearLines(t *testing.T) {
	const near = "\x00\t\n\r !\"+-.019:@\\_abfgkpruxAFXZ~\x7f\x80\xa0\xe2\xff"
	for _, line := range goodLines() {
		line += "\n"
		for i := range len(line) {
			checkParse(t, line[:i]+line[i+1:])
			checkParse(t, line[:i])
			checkParse(t, line[i:])
			checkParse(t, line[:i]+line[i:i+1]+line[i:])
			if i+1 < len(line) {
				checkParse(t, line[:i]+line[i+1:i+2]+line[i:i+1]+line[i+2:])
			}
			for c := range 256 {
				checkParse(t, line[:i]+string([]byte{byte(c)})+line[i+1:])
			}
			for _, c := range []byte(near) {
				checkParse(t, line[:i]+string([]byte{c})+line[i:])
			}
		}
	}
}

// TestEscapes goes through all that may stand behind a backslash and an x, and all bytes as they stand.
func TestEscapes(t *testing.T) {
	taken := 0
	for a := range 256 {
		plain := string([]byte{byte(a)})
		checkParse(t, `invoke 1 1 get "`+plain+"\"\n")
		checkParse(t, `invoke 1 1 put "k" "`+plain+"\"\n")
		checkParse(t, `invoke 1 1 put "k" "\`+plain+"41\"\n")
		for b := range 256 {
			line := `return 1 1 get "k" ok 1.1 "\x` + string([]byte{byte(a), byte(b)}) + "\"\n"
			checkParse(t, line)
			if _, _, e := history.Parse(line); e == api.OK {
				taken++
			}
		}
	}
	if want := 256 - (0x7e - 0x20 + 1 - 2); taken != want {
		t.Errorf("P19.5: %d codes of bytes are taken, want %d", taken, want)
	}
	for _, s := range []string{`\`, `\x`, `\x0`, `\x00\`, `\x00\x`, `\x00\x0`, `\X00`, `\n`, `\\`, `\"`, `\x000`, `a\x00b\x01`} {
		checkParse(t, `invoke 1 1 put "k" "`+s+"\"\n")
		checkParse(t, `invoke 1 1 get "`+s+"\"\n")
	}
}

// TestTails puts all lists of up to four words behind each beginning.
func TestTails(t *testing.T) {
	words := []string{"ok", "full", "absent", "wrong", "0", "20", "26", "27", "42", "76", "1.1", "0.0", `"x"`, `""`, ""}
	taken := 0
	var on func(line string, more int)
	on = func(line string, more int) {
		checkParse(t, line+"\n")
		if _, _, e := history.Parse(line + "\n"); e == api.OK {
			taken++
		}
		if more > 0 {
			for _, word := range words {
				on(line+" "+word, more-1)
			}
		}
	}
	for _, first := range []string{"invoke", "return", "cancel"} {
		for _, name := range []string{"put", "get"} {
			on(first+` 1 1 `+name+` "k"`, 4)
		}
	}
	if want := 2 + 1 + 1 + 1 + 2 + 1 + 4 + 2 + 1; taken != want {
		t.Errorf("P19.5: %d lines are taken, want %d", taken, want)
	}
}

func TestNumbers(t *testing.T) {
	for _, n := range []string{"0", "1", "01", "+1", "-1", "-0", "1_0", "0x1", "1e3", "1.0", "", " 1", "65535", "65536", "4294967297", "18446744073709551617", "4611686018427387903", "4611686018427387904", "9223372036854775807", "9223372036854775808", "٣"} {
		checkParse(t, "invoke "+n+" 1 get \"k\"\n")
		checkParse(t, "invoke 1 "+n+" get \"k\"\n")
		checkParse(t, "cancel 1 1 put \"k\" "+n+".1\n")
		checkParse(t, "cancel 1 1 put \"k\" 1."+n+"\n")
		checkParse(t, "cancel 1 1 put \"k\" "+n+"\n")
		checkParse(t, "return 1 1 get \"k\" wrong "+n+" 1.1\n")
	}
	for n := range 100 {
		word := strings.Repeat("0", n/50) + string(rune('0'+n/10)) + string(rune('0'+n%10))
		checkParse(t, "return 1 1 get \"k\" wrong "+word+" 1.1\n")
		checkParse(t, "return 1 1 put \"k\" wrong "+word+" 1.1\n")
	}
}

func TestLengths(t *testing.T) {
	for _, unit := range []string{"a", `\x00`, `\xff`} {
		for _, n := range []int{0, 1, 63, 64, 65, 66, 256} {
			checkParse(t, `cancel 1 1 get "`+strings.Repeat(unit, n)+"\"\n")
		}
		for _, n := range []int{0, 1, 65535, 65536, 65537} {
			value := strings.Repeat(unit, n)
			for _, line := range []string{`invoke 1 1 put "k" "` + value + "\"\n", `return 1 1 get "k" ok 1.1 "` + value + "\"\n"} {
				es, at, e := history.Parse(line)
				if n > api.MaxValue {
					if len(es) != 0 || at != 1 || e != api.ErrEvent {
						t.Errorf("P19.5: a value of %d bytes: %d, %d", n, at, int(e))
					}
					continue
				}
				if len(es) != 1 || at != 0 || e != api.OK || len(es[0].Value) != n {
					t.Fatalf("P19.5: a value of %d bytes: %d, %d", n, at, int(e))
				}
				if back, e := history.Text(es); back != line || e != api.OK {
					t.Errorf("P19.6: a value of %d bytes comes back otherwise", n)
				}
			}
		}
	}
}

// TestWhichLine: the first line that is none is named, whatever stands behind it.
func TestWhichLine(t *testing.T) {
	const good = "invoke 1 1 get \"k\"\n"
	for ahead := range 5 {
		for behind := range 3 {
			for _, bad := range []string{"\n", "x\n", "\n\n", " \n", "\r\n", good[:len(good)-1] + "\r\n", "x\n\n", "x\nx\n", "invoke 1 1 get \"k\" \n"} {
				s := strings.Repeat(good, ahead) + bad + strings.Repeat(good, behind)
				if es, n, e := history.Parse(s); len(es) != 0 || n != ahead+1 || e != api.ErrEvent {
					t.Errorf("P19.5: Parse(%q) is %v, %d, %d", s, es, n, int(e))
				}
			}
		}
		for cut := 1; cut < len(good); cut++ { // what stands behind the last line end
			s := strings.Repeat(good, ahead) + good[:cut]
			if es, n, e := history.Parse(s); len(es) != 0 || n != ahead+1 || e != api.ErrEvent {
				t.Errorf("P19.5: Parse(%q) is %v, %d, %d", s, es, n, int(e))
			}
		}
		if es, n, e := history.Parse(strings.Repeat(good, ahead)); len(es) != ahead || n != 0 || e != api.OK {
			t.Errorf("P19.5: %d lines: %v, %d, %d", ahead, es, n, int(e))
		}
	}
}

// TestParseAsksNoPlaces: lines are taken that can't stand where they stand.
func TestParseAsksNoPlaces(t *testing.T) {
	s := "return 1 7 get \"k\" absent\ninvoke 1 7 get \"k\"\ninvoke 1 7 get \"k\"\ncancel 2 1 put \"j\" 0.0\n"
	es, n, e := history.Parse(s)
	if len(es) != 4 || n != 0 || e != api.OK {
		t.Fatalf("P19.5: Parse(%q) is %v, %d, %d", s, es, n, int(e))
	}
	checkParse(t, s)
	if at, e := history.Check(es); at != 0 || e != api.ErrEvent {
		t.Errorf("P19.1: Check of it is %d, %d", at, int(e))
	}
}

// TestAnyText: whatever the text is, Parse ends, and takes it just where it is a history's.
func TestAnyText(t *testing.T) {
	pieces := append(goodLines(), "\n", "\n", "\n", " ", "\"", "\\", "invoke", "return 1", "\x00", "\xff\xfe", "1.1", "ok ")
	d := dice(5)
	for range 20000 {
		var b strings.Builder
		for range d.below(6) {
			b.WriteString(pieces[d.below(len(pieces))])
			if d.below(2) == 0 {
				b.WriteString("\n")
			}
		}
		checkParse(t, b.String())
	}
	for range 5000 {
		checkParse(t, string(d.bytes(40)))
	}
}
