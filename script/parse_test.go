package script_test

import (
	"maps"
	"math/rand/v2"
	"slices"
	"strings"
	"testing"

	"sherd/api"
	"sherd/script"
)

func goodLines() []string { return slices.Sorted(maps.Keys(rows())) }

// near has bytes that stand in lines, and some that look like them.
const near = "\x00\t\n\r +-.019:_abfgknptAFX~\x7f\x80\xa0\xe2\xff"

// TestExamplesOfParse: the third and the fifth of the chapter's examples.
func TestExamplesOfParse(t *testing.T) {
	two := []api.Step{{Kind: api.STick, A: 1}, {Kind: api.STick, A: 2}}
	for _, text := range []string{"tick 1\ntick 2", "tick 1\ntick 2\n"} {
		if steps, n, e := script.Parse(text); !sameSteps(steps, two) || n != 0 || e != api.OK {
			t.Errorf("T1: Parse(%q) is %v, %d, %d", text, steps, n, int(e))
		}
	}
	if steps, n, e := script.Parse(""); len(steps) != 0 || n != 0 || e != api.OK {
		t.Errorf("T1: Parse of no text is %v, %d, %d", steps, n, int(e))
	}
	for text, at := range map[string]int{
		"tick 1\ntick 2\n\n": 2, "\n": 0, "\n\n": 0, "\ntick 1\n": 0, "tick 1\n\ntick 2": 1,
		"tick 01": 0, "tick +1": 0, "tick -0": 0, "tick 1 ": 0, " tick 1": 0, "tick  1": 0, "tick": 0, "tick 1 2": 0, "Tick 1": 0, "put 1 6 78": 0, "put 1 6B 78": 0, "put 1 6b": 0, "tick 9223372036854775808": 0, "crash 0 ": 0, "round": 0,
		strings.Repeat("x\n", 4096): 0,
	} {
		if steps, n, e := script.Parse(text); len(steps) != 0 || n != at || e != api.ErrScript {
			t.Errorf("T1: Parse(%s) is %v, %d, %d, want 82 at %d", short(text), steps, n, int(e), at)
		}
	}
	if steps, n, e := script.Parse(strings.Repeat("x\n", 4097)); len(steps) != 0 || n != 0 || e != api.ErrLong {
		t.Errorf("T1: Parse of 4097 lines is %v, %d, %d", steps, n, int(e))
	}
}

// TestNearLines changes one byte of a line, takes one out, puts one in, doubles one, takes two neighbours the other way round, or cuts the line.
func TestNearLines(t *testing.T) {
	for _, line := range goodLines() {
		line += "\n"
		if checkParse(t, line) != 1 {
			t.Errorf("T1: %q is not taken", line)
		}
		for i := range len(line) {
			checkParse(t, line[:i]+line[i+1:])
			checkParse(t, line[:i])
			checkParse(t, line[i:])
			checkParse(t, line[:i]+line[i:i+1]+line[i:])
			if i+1 < len(line) {
				checkParse(t, line[:i]+line[i+1:i+2]+line[i:i+1]+line[i+2:])
			}
			for c := range 256 {
				checkParse(t, line[:i]+string([]byte{byte(c)})+line[i+1:])
			}
			for _, c := range []byte(near) {
				checkParse(t, line[:i]+string([]byte{c})+line[i:])
			}
		}
		for _, c := range []byte(near) {
			checkParse(t, line+string([]byte{c}))
		}
	}
}

// TestDigits goes through all two bytes, and all single ones, that may stand where a key does: each byte is written in one way alone.
func TestDigits(t *testing.T) {
	two, one := 0, 0
	for a := range 256 {
		one += checkParse(t, "get 1 "+string([]byte{byte(a)}))
		for b := range 256 {
			word := string([]byte{byte(a), byte(b)})
			if strings.ContainsRune(word, '\n') {
				continue
			}
			two += checkParse(t, "get 1 "+word)
			if a < 128 && b < 128 {
				checkParse(t, "put 1 6b 00"+word)
			}
		}
	}
	if two != 256 || one != 1 {
		t.Errorf("T2: of two digits %d are taken, want 256; of one %d, want the minus alone", two, one)
	}
	for _, word := range []string{"", "-", "--", "---", "-00", "00-", "0-", "-0", "000", "0000", "00000", "0 0", "0x00", "\"\"", "é", "éé", "0é", "é0", "00é", "\xc3", "00\xc3\xa9"} {
		checkParse(t, "get 1 "+word)
		checkParse(t, "put 1 "+word+" 00")
		checkParse(t, "put 1 00 "+word)
		checkParse(t, "put 1 - "+word)
	}
}

// numbers are words that are numbers of a line, and words that are none.
func numbers() []string {
	return []string{
		"0", "1", "-1", "9", "10", "-10", "255", "256", "4294967295", "4294967296", "9223372036854775807", "-9223372036854775808",
		"", "-", "--1", "+1", "+0", "-0", "-00", "00", "01", "-01", "0x1", "0b1", "0o1", "1_0", "1e3", "1.0", "1,0", "a", "f", "NaN", "1\t", "\t1", "1\x00", "1\r",
		"9223372036854775808", "-9223372036854775809", "18446744073709551615", "18446744073709551616", "18446744073709551617", "-18446744073709551617", "99999999999999999999999999999999999999", "-99999999999999999999999999999999999999",
		"000000000000000000000000000000000000001", "٣", "１", "−1", "1\xff", "\xff", "\u0131", "\u0130",
	}
}

func TestNumbers(t *testing.T) {
	taken := 0
	for _, n := range numbers() {
		for _, line := range []string{"tick @", "put @ - -", "get @ 6b", "burst @ 0 0", "burst 0 @ 0", "cut @ 0", "cut 0 @", "crash @", "crash 0 @", "crash 0 @ 1", "crash 0 1 @", "die @ 0", "die 0 @", "die 0 0 @", "round @", "round @ 1", "round 0 @", "round 0 5 @"} {
			taken += checkParse(t, strings.Replace(line, "@", n, 1))
		}
		checkParse(t, "burst 0 0 "+n)
	}
	if want := 12 * 18; taken != want {
		t.Errorf("T1: %d lines with numbers are taken, want %d", taken, want)
	}
	patterns := 0
	for _, n := range append(numbers(), "2147483647", "2147483648", "-2147483648") {
		patterns += checkParse(t, "burst 1 2 "+n)
	}
	if want := 9; patterns != want {
		t.Errorf("T1: %d patterns are taken, want %d", patterns, want)
	}
}

// TestTails puts all lists of up to four words behind each first word, and behind some that are none.
func TestTails(t *testing.T) {
	firsts := []string{"", "x", "Put", "putt", "pu", "config", "A", "0", "-", "sput", "compac", "cancel\x00"}
	for _, line := range table {
		first, _, _ := strings.Cut(line, " ")
		firsts = append(firsts, first)
	}
	words := []string{"0", "-7", "01", "6b", "-", "", "10"}
	taken := map[string]int{}
	for _, first := range firsts {
		var on func(line string, more int)
		on = func(line string, more int) {
			taken[first] += checkParse(t, line)
			if more > 0 {
				for _, word := range words {
					on(line+" "+word, more-1)
				}
			}
		}
		on(first, 4)
	}
	// Numbers are 0, -7 and 10; bytes 01, 6b, 10 and the minus.
	for first, n := range map[string]int{"put": 3 * 4 * 4, "get": 3 * 4, "burst": 3 * 3 * 2, "cut": 3 * 3, "crash": 3 + 9 + 27 + 81, "die": 9 + 27 + 81, "round": 3 + 9 + 27 + 81, "x": 0, "": 1 /* the text without a byte */, "config": 0, "Put": 0} {
		if taken[first] != n {
			t.Errorf("T1: %d lines with %q are taken, want %d", taken[first], first, n)
		}
	}
	for _, first := range []string{"cancel", "tick", "stop", "deliver", "drop", "double", "lose", "start", "compact"} {
		if taken[first] != 3 {
			t.Errorf("T1: %d lines with %q are taken, want 3", taken[first], first)
		}
	}
}

// TestWhichLine: the first line that is none is named, from 0 on, whatever stands behind it.
func TestWhichLine(t *testing.T) {
	const good = "tick 1\n"
	for ahead := range 5 {
		for behind := range 3 {
			for _, bad := range []string{"\n", "x\n", "\n\n", " \n", "\r\n", "tick 1\r\n", "x\n\n", "x\nx\n", "tick 1 \n", "\xe2\n", "tick 1\xe2\n", "\u2028\n", "tick 1\u010a\n", "tick 1\u010atick 1\n"} {
				text := strings.Repeat(good, ahead) + bad + strings.Repeat(good, behind)
				if steps, n, e := script.Parse(text); len(steps) != 0 || n != ahead || e != api.ErrScript {
					t.Errorf("T1: Parse(%q) is %v, %d, %d, want 82 at %d", text, steps, n, int(e), ahead)
				}
			}
		}
		for cut := 1; cut < len(good)-2; cut++ { // what stands behind the last end
			text := strings.Repeat(good, ahead) + good[:cut]
			if steps, n, e := script.Parse(text); len(steps) != 0 || n != ahead || e != api.ErrScript {
				t.Errorf("T1: Parse(%q) is %v, %d, %d, want 82 at %d", text, steps, n, int(e), ahead)
			}
		}
		for _, end := range []string{"", "get 1 -", "get 1 -\n"} {
			text := strings.Repeat(good, ahead) + end
			if steps, n, e := script.Parse(text); len(steps) != ahead+min(len(end), 1) || n != 0 || e != api.OK {
				t.Errorf("T1: Parse(%q) is %v, %d, %d", text, steps, n, int(e))
			}
		}
	}
}

// TestHowManyLines: too many lines are looked at ahead of all else.
func TestHowManyLines(t *testing.T) {
	for _, line := range []string{"tick 1", "", "x", "\xe2", "\xe2\x80", "é", "\u010a", " ", "put 1 6b 780a"} { // \u010a has the end in its number, not in its bytes
		for n := 4090; n < 4100; n++ {
			for _, last := range []string{"", "\n", "x", "tick 1", "tick 1\n", "\xe2", "\r"} {
				text := strings.Repeat(line+"\n", n) + last
				checkParse(t, text)
				many := n + min(len(last), 1)
				steps, at, e := script.Parse(text)
				if many > 4096 && (len(steps) != 0 || at != 0 || e != api.ErrLong) {
					t.Errorf("T1: Parse of %d lines of %q and %q is %d, %d", n, line, last, at, int(e))
				}
				if many <= 4096 && e == api.ErrLong {
					t.Errorf("T1: Parse of %d lines of %q and %q is too long", n, line, last)
				}
			}
		}
	}
	for _, n := range []int{4097, 8192, 1 << 20} {
		if steps, at, e := script.Parse(strings.Repeat("\n", n)); len(steps) != 0 || at != 0 || e != api.ErrLong {
			t.Errorf("T1: Parse of %d ends is %d, %d", n, at, int(e))
		}
	}
	last := strings.Repeat("tick 1\n", 4095)
	if steps, at, e := script.Parse(last + "x"); len(steps) != 0 || at != 4095 || e != api.ErrScript {
		t.Errorf("T1: Parse of 4095 lines and one that is none is %d, %d", at, int(e))
	}
	if steps, at, e := script.Parse(last + "tick 2"); len(steps) != 4096 || at != 0 || e != api.OK || steps[4095].A != 2 {
		t.Errorf("T1: Parse of 4096 lines is %d steps, %d, %d", len(steps), at, int(e))
	}
}

// TestAnyText: whatever the text is, Parse ends, and takes it just where it is a script's.
func TestAnyText(t *testing.T) {
	r := rand.New(rand.NewPCG(24, 2))
	pieces := append(goodLines(), "\n", "\n", " ", "-", "6b", "0", "put", "round 1", "\x00", "\xff\xfe", "é", "\xf0\x9f", "config 3 1 0 1")
	taken := 0
	for range 30000 {
		var b strings.Builder
		for range r.IntN(6) {
			b.WriteString(pieces[r.IntN(len(pieces))])
			if r.IntN(3) > 0 {
				b.WriteString("\n")
			}
		}
		taken += checkParse(t, b.String())
		checkConfig(t, b.String())
	}
	for range 20000 {
		b := make([]byte, r.IntN(30))
		for i := range b {
			b[i] = byte(r.UintN(256))
		}
		checkParse(t, string(b))
		checkConfig(t, string(b))
	}
	if taken < 3000 || taken > 27000 {
		t.Errorf("the test says little: %d texts are taken", taken)
	}
}
