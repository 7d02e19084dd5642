package tag_test

import (
	"math"
	"math/big"
	"slices"
	"strconv"
	"strings"
	"testing"

	"sherd/api"
	"sherd/tag"
)

const top = api.MaxCount

func g(count int64, client int) api.Tag { return api.Tag{Count: count, Client: client} }

// edges: tags whose counters and clients lie at the ends of what may be, and beyond.
func edges() []api.Tag {
	var l []api.Tag
	for _, count := range []int64{math.MinInt64, -top - 1, -1, 0, 1, 2, 1 << 32, top - 1, top, top + 1, math.MaxInt64} {
		for _, client := range []int{math.MinInt, -65536, -1, 0, 1, 2, 65534, 65535, 65536, 65537, 1<<32 + 1, math.MaxInt} {
			l = append(l, g(count, client))
		}
	}
	return l
}

// rank is a number by which tags are ordered as the chapter says: the client can't reach the counter's digits.
func rank(t api.Tag) *big.Int {
	n := new(big.Int).Lsh(big.NewInt(t.Count), 66)
	return n.Add(n, big.NewInt(int64(t.Client)))
}

func mayBe(t api.Tag) bool {
	return t.Count > 0 && t.Count < 1<<62 && t.Client > 0 && t.Client < 1<<16
}

func TestZeroAndValid(t *testing.T) {
	for _, x := range []api.Tag{g(0, 0), g(1, 1), g(top, 65535)} {
		if !tag.Valid(x) {
			t.Errorf("G1: %v is not valid", x)
		}
	}
	for _, x := range []api.Tag{g(0, 1), g(1, 0), g(-1, 1), g(1, 65536), g(top+1, 1), g(1, -1)} {
		if tag.Valid(x) {
			t.Errorf("G1: %v is valid", x)
		}
	}
	for _, x := range edges() {
		initial := x.Count == 0 && x.Client == 0
		if tag.Zero(x) != initial || tag.Valid(x) != (initial || mayBe(x)) {
			t.Errorf("G1: of %v Zero is %v, Valid %v", x, tag.Zero(x), tag.Valid(x))
		}
	}
}

func TestCompareIsTheOrder(t *testing.T) {
	for _, c := range []struct {
		a, b api.Tag
		want int
	}{{g(3, 1), g(2, 9), 1}, {g(2, 1), g(2, 9), -1}, {g(0, 0), g(1, 1), -1}, {g(2, 2), g(2, 2), 0}, {g(math.MinInt64, 0), g(math.MaxInt64, 0), -1}, {g(0, math.MaxInt), g(0, math.MinInt), 1}} {
		if got := tag.Compare(c.a, c.b); got != c.want {
			t.Errorf("G1: Compare(%v, %v) is %d, want %d", c.a, c.b, got, c.want)
		}
	}
	for _, a := range edges() {
		for _, b := range edges() {
			if got, want := tag.Compare(a, b), rank(a).Cmp(rank(b)); got != want {
				t.Errorf("G1: Compare(%v, %v) is %d, want %d", a, b, got, want)
			}
		}
	}
}

func TestMaxIsTheGreatest(t *testing.T) {
	for _, c := range []struct {
		ts   []api.Tag
		want api.Tag
	}{
		{nil, g(0, 0)}, {[]api.Tag{}, g(0, 0)}, {[]api.Tag{g(2, 9), g(3, 1), g(2, 1)}, g(3, 1)}, {[]api.Tag{g(-1, 5)}, g(-1, 5)},
		{[]api.Tag{g(-1, 5), g(-1, 6), g(-2, 7)}, g(-1, 6)}, {[]api.Tag{g(1, 1), g(1, 1)}, g(1, 1)}, {[]api.Tag{g(0, 0), g(0, -1)}, g(0, 0)},
		{[]api.Tag{g(math.MinInt64, math.MinInt)}, g(math.MinInt64, math.MinInt)},
	} {
		if got := tag.Max(c.ts...); got != c.want {
			t.Errorf("G1: Max of %v is %v, want %v", c.ts, got, c.want)
		}
	}
	all := edges()
	slices.Reverse(all[len(all)/3:])
	for i := range all {
		turned := append(slices.Clone(all[i:]), all[:i]...)
		given := slices.Clone(turned)
		if got := tag.Max(turned...); got != g(math.MaxInt64, math.MaxInt) {
			t.Errorf("G1: Max of all from %v on is %v", all[i], got)
		}
		if !slices.Equal(turned, given) {
			t.Fatalf("P2: Max changed what was handed in")
		}
		for _, b := range all {
			want := all[i]
			if rank(b).Cmp(rank(want)) > 0 {
				want = b
			}
			if got := tag.Max(all[i], b); got != want {
				t.Errorf("G1: Max of %v and %v is %v", all[i], b, got)
			}
		}
	}
}

func TestNextExamples(t *testing.T) {
	for _, c := range []struct {
		t      api.Tag
		used   int64
		client int
		want   api.Tag
		e      api.Errno
	}{
		{g(0, 0), 0, 7, g(1, 7), api.OK}, {g(4, 3), 0, 7, g(4, 7), api.OK}, {g(4, 7), 0, 7, g(5, 7), api.OK}, {g(4, 9), 0, 7, g(5, 7), api.OK},
		{g(4, 3), 4, 7, g(5, 7), api.OK}, {g(4, 3), 8, 7, g(9, 7), api.OK}, {g(4, 3), 3, 7, g(4, 7), api.OK}, {g(4, 9), 3, 7, g(5, 7), api.OK},
		{g(top, 3), 0, 7, g(top, 7), api.OK}, {g(top, 3), top - 1, 7, g(top, 7), api.OK}, {g(top, 7), 0, 7, g(0, 0), api.ErrFull}, {g(top, 8), 0, 7, g(0, 0), api.ErrFull},
		{g(0, 0), top, 7, g(0, 0), api.ErrFull}, {g(top, 3), top, 7, g(0, 0), api.ErrFull}, {g(0, 0), top - 1, 7, g(top, 7), api.OK},
		{g(top-1, 65535), 0, 65535, g(top, 65535), api.OK}, {g(0, 0), 0, 1, g(1, 1), api.OK}, {g(0, 0), 0, 65535, g(1, 65535), api.OK}, {g(1, 65534), 0, 65535, g(1, 65535), api.OK},
		{g(1, 1), -1, 1, g(0, 0), api.ErrArg}, {g(1, 1), 0, 65536, g(0, 0), api.ErrArg}, {g(1, 1), top + 1, 1, g(0, 0), api.ErrArg}, {g(1, 1), 0, 0, g(0, 0), api.ErrArg},
		{g(1, 1), math.MinInt64, 1, g(0, 0), api.ErrArg}, {g(1, 1), math.MaxInt64, 1, g(0, 0), api.ErrArg}, {g(1, 1), 0, math.MinInt, g(0, 0), api.ErrArg}, {g(1, 1), 0, math.MaxInt, g(0, 0), api.ErrArg},
		{g(1, 1), 0, 65535, g(1, 65535), api.OK}, {g(1, 1), 0, 1<<32 + 1, g(0, 0), api.ErrArg},
		// the first that applies
		{g(0, 1), -1, 0, g(0, 0), api.ErrTag}, {g(0, 1), 0, 1, g(0, 0), api.ErrTag}, {g(top+1, 1), 0, 1, g(0, 0), api.ErrTag}, {g(1, 65536), top, 1, g(0, 0), api.ErrTag},
		{g(top, 65535), -1, 1, g(0, 0), api.ErrArg}, {g(top, 65535), 0, 0, g(0, 0), api.ErrArg}, {g(top, 65535), top + 1, 1, g(0, 0), api.ErrArg}, {g(0, 0), top, 65536, g(0, 0), api.ErrArg},
	} {
		if got, e := tag.Next(c.t, c.used, c.client); got != c.want || e != c.e {
			t.Errorf("G2: Next(%v, %d, %d) is %v, %d, want %v, %d", c.t, c.used, c.client, got, e, c.want, c.e)
		}
	}
}

// firstOf goes through the counters one by one, from the least that may be the first.
func firstOf(x api.Tag, used int64, client int) (api.Tag, api.Errno) {
	for count := max(1, min(x.Count, used)); count <= top; count++ {
		if next := g(count, client); rank(next).Cmp(rank(x)) > 0 && count > used {
			return next, api.OK
		}
	}
	return api.Tag{}, api.ErrFull
}

// TestNextIsTheFirst: all tags, used counters and clients in a small square at either end.
func TestNextIsTheFirst(t *testing.T) {
	full := 0
	for _, base := range []int64{0, top - 4} {
		for i := range int64(25) {
			for client := 1; client <= 5; client++ {
				for used := base; used <= base+4; used++ {
					x := g(base+i/5, int(i%5)+1)
					if x.Count == 0 {
						x.Client = 0
					}
					want, wantErr := firstOf(x, used, client)
					if got, e := tag.Next(x, used, client); got != want || e != wantErr {
						t.Errorf("G2: Next(%v, %d, %d) is %v, %d, want %v, %d", x, used, client, got, e, want, wantErr)
					}
					if wantErr == api.ErrFull {
						full++
					}
				}
			}
		}
	}
	if full == 0 {
		t.Errorf("G2: no Next was at the counters' end")
	}
}

// TestNextAtAllEdges holds the error, and where there is none what G2 says of the tag, against the chapter's words.
func TestNextAtAllEdges(t *testing.T) {
	for _, x := range edges() {
		for _, u := range edges() {
			used, client := u.Count, u.Client
			got, e := tag.Next(x, used, client)
			want := api.OK
			switch {
			case x != g(0, 0) && !mayBe(x):
				want = api.ErrTag
			case used < 0 || used > top || client < 1 || client > 65535:
				want = api.ErrArg
			case used == top || x.Count == top && x.Client >= client:
				want = api.ErrFull
			}
			if e != want {
				t.Fatalf("G2, P4: Next(%v, %d, %d) is %d, want %d", x, used, client, e, want)
			}
			if e != api.OK {
				if got != g(0, 0) {
					t.Fatalf("P3: Next(%v, %d, %d) is %v beside %d", x, used, client, got, e)
				}
				continue
			}
			behind := func(n api.Tag) bool { return mayBe(n) && n.Count > used && rank(n).Cmp(rank(x)) > 0 }
			if !behind(got) || got.Client != client || behind(g(got.Count-1, client)) {
				t.Fatalf("G2: Next(%v, %d, %d) is %v", x, used, client, got)
			}
		}
	}
}

func TestText(t *testing.T) {
	for _, c := range []struct {
		t    api.Tag
		want string
	}{
		{g(12, 3), "12.3"}, {g(0, 0), "0.0"}, {g(1, 1), "1.1"}, {g(100, 65535), "100.65535"}, {g(top, 65535), "4611686018427387903.65535"}, {g(top, 10), "4611686018427387903.10"},
		{g(0, 1), ""}, {g(1, 0), ""}, {g(-1, 1), ""}, {g(1, -1), ""}, {g(top+1, 1), ""}, {g(1, 65536), ""}, {g(math.MinInt64, math.MinInt), ""},
	} {
		if got := tag.Text(c.t); got != c.want {
			t.Errorf("G3: Text(%v) is %q, want %q", c.t, got, c.want)
		}
	}
	for _, x := range edges() {
		want := ""
		if x == g(0, 0) || mayBe(x) {
			want = big.NewInt(x.Count).String() + "." + big.NewInt(int64(x.Client)).String()
		}
		if got := tag.Text(x); got != want {
			t.Errorf("G3: Text(%v) is %q, want %q", x, got, want)
		}
	}
}

// inTens is the number that stands there, digit by digit, without zeros ahead.
func inTens(s string) (*big.Int, bool) {
	n := new(big.Int)
	if s == "" || s != "0" && s[0] == '0' {
		return nil, false
	}
	for i := range len(s) {
		if s[i] < '0' || s[i] > '9' {
			return nil, false
		}
		n.Mul(n, big.NewInt(10)).Add(n, big.NewInt(int64(s[i]-'0')))
	}
	return n, true
}

// tagOf reads a text as the chapter tells it.
func tagOf(s string) (api.Tag, api.Errno) {
	parts := strings.Split(s, ".")
	if len(parts) != 2 {
		return api.Tag{}, api.ErrForm
	}
	count, ok1 := inTens(parts[0])
	client, ok2 := inTens(parts[1])
	if !ok1 || !ok2 || !count.IsInt64() || !client.IsInt64() {
		return api.Tag{}, api.ErrForm
	}
	x := g(count.Int64(), int(client.Int64()))
	if x != g(0, 0) && !mayBe(x) {
		return api.Tag{}, api.ErrForm
	}
	return x, api.OK
}

func checkParse(t *testing.T, s string) bool {
	t.Helper()
	want, wantErr := tagOf(s)
	got, e := tag.Parse(s)
	if got != want || e != wantErr {
		t.Fatalf("G3: Parse(%q) is %v, %d, want %v, %d", s, got, e, want, wantErr)
	}
	if e == api.OK && tag.Text(got) != s {
		t.Fatalf("G3: Parse takes %q, Text of it is %q", s, tag.Text(got))
	}
	return e == api.OK
}

func TestParseExamples(t *testing.T) {
	for _, s := range []string{
		"", "12", "12.", ".3", "012.3", "12.03", "+1.2", "1.2 ", "0.1", "1.0", "1.65536", "4611686018427387904.1", "1.2.3",
		"-1.2", "1.-2", "1.+2", " 1.2", "1 .2", "1. 2", ".", "..", "1..2", ".1.2", "1.2.", "00.0", "0.00", "0.0.0", "-0.0", "0.-0", "0", "1,2", "1.2\n", "1.2\x00", "\x001.2",
		"0x1.1", "1.0x1", "1_0.1", "1.1_0", "1e1.1", "a.b", "١.١", "1．2", "\xff.\xff", "inf.1", "18446744073709551617.1", "1.18446744073709551617", "18446744073709551616.18446744073709551616",
		"9223372036854775807.1", "9223372036854775808.1", "1.9223372036854775808", "1.4294967297",
		strings.Repeat("9", 100000) + ".1", "1." + strings.Repeat("9", 100000), strings.Repeat("0", 100000) + "1.1", strings.Repeat("1.", 50000) + "1",
	} {
		if got, e := tag.Parse(s); got != g(0, 0) || e != api.ErrForm {
			t.Errorf("G3: Parse(%.40q) is %v, %d", s, got, e)
		}
		checkParse(t, s)
	}
	for _, s := range []string{"12.3", "0.0", "1.1", "10.10", "4611686018427387903.65535", "4611686018427387903.1", "1.65535"} {
		if !checkParse(t, s) {
			t.Errorf("G3: Parse refuses %q", s)
		}
	}
}

// TestParseAllShortTexts: all of up to six signs of a few kinds.
func TestParseAllShortTexts(t *testing.T) {
	signs := []byte("016.-+_ ")
	taken := 0
	for long := range 7 {
		text := make([]byte, long)
		for i := range 1 << (3 * long) {
			for j := range text {
				text[j] = signs[i>>(3*j)&7]
			}
			if checkParse(t, string(text)) {
				taken++
			}
		}
	}
	if taken < 100 {
		t.Errorf("G3: only %d texts were tags", taken)
	}
}

func TestParseAroundTexts(t *testing.T) {
	for _, x := range edges() {
		s := strconv.FormatInt(x.Count, 10) + "." + strconv.Itoa(x.Client)
		if checkParse(t, s) != (x == g(0, 0) || mayBe(x)) {
			t.Errorf("G3: Parse(%q)", s)
		}
		for i := range len(s) + 1 {
			checkParse(t, s[:i]+s[min(i+1, len(s)):])
			for b := range 256 {
				checkParse(t, s[:i]+string([]byte{byte(b)})+s[i:])
				checkParse(t, s[:i]+string([]byte{byte(b)})+s[min(i+1, len(s)):])
			}
		}
	}
}
