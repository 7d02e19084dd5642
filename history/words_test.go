package history_test

import (
	"bytes"
	"fmt"
	"math"
	"regexp"
	"slices"
	"sort"
	"strconv"
	"strings"
	"testing"

	"sherd/api"
	"sherd/history"
)

// The chapter told a second time: an event's faults as a list of conditions in the chapter's order; places by going through all that is ahead; lines by a format for each row of the table, and read by an expression for each.

// whyNot is what is wrong with an event by itself.
func whyNot(e api.Event) api.Errno {
	invoke, ret, cancel := e.Kind == 1, e.Kind == 2, e.Kind == 3
	initial := e.Tag.Count == 0 && e.Tag.Client == 0
	proper := 1 <= e.Tag.Count && e.Tag.Count <= 1<<62-1 && 1 <= e.Tag.Client && e.Tag.Client <= 65535
	stripes := []api.Errno{20, 21, 22, 23, 24, 25, 26}
	for _, x := range []struct {
		so  bool
		why api.Errno
	}{
		{!invoke && !ret && !cancel, 32},
		{e.Client < 1, 51}, {e.Client > 65535, 51},
		{e.Key == "", 74}, {len(e.Key) > 64, 74},
		{len(e.Value) > 65536, 75},
		{len(e.Value) > 0 && !(invoke && e.Put) && !(ret && !e.Put && e.Status == 0), 75},
		{!initial && !proper, 41},
		{!initial && invoke, 41},
		{!initial && cancel && !e.Put, 41},
		{!initial && ret && (e.Status == 76 || e.Status == 42), 41},
		{initial && ret && e.Status == 0, 41},
		{e.Op < 1, 80}, {e.Op > 1<<62-1, 80},
		{(invoke || cancel) && e.Status != 0, 80},
		{ret && e.Put && e.Status != 0 && e.Status != 42, 80},
		{ret && !e.Put && e.Status != 0 && e.Status != 76 && !slices.Contains(stripes, e.Status), 80},
	} {
		if x.so {
			return x.why
		}
	}
	return 0
}

// underWay is the Invoke of what a client has under way.
func underWay(ahead []api.Event, client int) (api.Event, bool) {
	var begun api.Event
	found := false
	for _, e := range ahead {
		if e.Client == client && e.Kind == 1 {
			begun, found = e, true
		} else if e.Client == client && e.Op == begun.Op {
			found = false
		}
	}
	return begun, found
}

// firstWrong is Check.
func firstWrong(es []api.Event) (int, api.Errno) {
	for i, e := range es {
		if why := whyNot(e); why != 0 {
			return i, why
		}
		begun, busy := underWay(es[:i], e.Client)
		invokes := int64(0)
		for _, f := range es[:i] {
			if f.Client == e.Client && f.Kind == 1 {
				invokes++
			}
		}
		if e.Kind == 1 && (busy || e.Op != invokes+1) {
			return i, 80
		}
		if e.Kind != 1 && (!busy || begun.Op != e.Op || begun.Put != e.Put || begun.Key != e.Key) {
			return i, 80
		}
	}
	return -1, 0
}

// callsTold is Calls of a history that may be, each field by itself.
func callsTold(es []api.Event) []api.Call {
	var calls []api.Call
	for i, e := range es {
		if e.Kind != 1 {
			continue
		}
		ret, cancel := -1, -1
		for j, f := range es {
			if f.Client == e.Client && f.Op == e.Op && f.Kind == 2 {
				ret = j
			}
			if f.Client == e.Client && f.Op == e.Op && f.Kind == 3 {
				cancel = j
			}
		}
		c := api.Call{Client: e.Client, Op: e.Op, Put: e.Put, Key: e.Key, From: i}
		c.Open = e.Put && (ret < 0 || es[ret].Status != 0)
		c.To = ret
		if c.Open {
			c.To = -1
		}
		if ret >= 0 {
			c.Status, c.Tag = es[ret].Status, es[ret].Tag
		}
		if cancel >= 0 {
			c.Status, c.Tag = 77, es[cancel].Tag
		}
		if e.Put {
			c.Value = e.Value
		} else if ret >= 0 {
			c.Value = es[ret].Value
		}
		calls = append(calls, c)
	}
	return calls
}

// quote is bytes as they stand in a line.
func quote(b string) string {
	s := ""
	if strings.Trim(b, "abcxyz") == "" { // the long ones
		return "\"" + b + "\""
	}
	for _, c := range []byte(b) {
		if c < 0x20 || c > 0x7e || c == 0x22 || c == 0x5c {
			s += fmt.Sprintf("\\x%02x", c)
		} else {
			s += string(rune(c))
		}
	}
	return "\"" + s + "\""
}

// lineTold is the line of an event that may be.
func lineTold(e api.Event) string {
	name := "get"
	if e.Put {
		name = "put"
	}
	is := func(kind int, put bool) bool { return e.Kind == kind && e.Put == put }
	middle := fmt.Sprintf("%d %d %s %s", e.Client, e.Op, name, quote(e.Key))
	tag := fmt.Sprintf("%d.%d", e.Tag.Count, e.Tag.Client)
	switch {
	case is(1, true):
		return "invoke " + middle + " " + quote(string(e.Value))
	case is(1, false):
		return "invoke " + middle
	case is(2, true) && e.Status == 0:
		return "return " + middle + " ok " + tag
	case is(2, true):
		return "return " + middle + " full"
	case is(2, false) && e.Status == 0:
		return "return " + middle + " ok " + tag + " " + quote(string(e.Value))
	case is(2, false) && e.Status == 76:
		return "return " + middle + " absent"
	case is(2, false):
		return "return " + middle + " wrong " + strconv.Itoa(int(e.Status)) + " " + tag
	case is(3, true):
		return "cancel " + middle + " " + tag
	}
	return "cancel " + middle
}

// form is a row of the table of lines, read.
type form struct {
	*regexp.Regexp
	e      api.Event // what the words of the row say
	status int       // which part is STATUS, TAG and VALUE: 0, if none is
	tag    int
	value  int
}

const (
	number = `(0|[1-9][0-9]*)`
	tags   = `([0-9]+)\.([0-9]+)`
	plain  = `[\x20\x21\x23-\x5b\x5d-\x7e]`
	coded  = `\\x(?:[01][0-9a-f]|22|5c|7f|[89a-f][0-9a-f])`
	bytesQ = `"((?:` + plain + `|` + coded + `)*)"`
)

func forms() []form {
	row := func(first, name, last string, e api.Event, status, tag, value int) form {
		e.Put = name == "put"
		return form{regexp.MustCompile(`^` + first + ` ` + number + ` ` + number + ` ` + name + ` ` + bytesQ + last + `$`), e, status, tag, value}
	}
	return []form{
		row("invoke", "put", " "+bytesQ, api.Event{Kind: 1}, 0, 0, 4),
		row("invoke", "get", "", api.Event{Kind: 1}, 0, 0, 0),
		row("return", "put", " ok "+tags, api.Event{Kind: 2}, 0, 4, 0),
		row("return", "put", " full", api.Event{Kind: 2, Status: 42}, 0, 0, 0),
		row("return", "get", " ok "+tags+" "+bytesQ, api.Event{Kind: 2}, 0, 4, 6),
		row("return", "get", " absent", api.Event{Kind: 2, Status: 76}, 0, 0, 0),
		row("return", "get", " wrong (2[0-6]) "+tags, api.Event{Kind: 2}, 4, 5, 0),
		row("cancel", "put", " "+tags, api.Event{Kind: 3}, 0, 4, 0),
		row("cancel", "get", "", api.Event{Kind: 3}, 0, 0, 0),
	}
}

var rows = forms()

var byteCoded = regexp.MustCompile(`\\x..`)

func unquote(s string) string {
	return byteCoded.ReplaceAllStringFunc(s, func(c string) string {
		n, _ := strconv.ParseUint(c[2:], 16, 8)
		return string([]byte{byte(n)})
	})
}

// whole is a number without zeros ahead, if it is one.
func whole(s string) (int64, bool) {
	n, err := strconv.ParseInt(s, 10, 64)
	return n, err == nil && strconv.FormatInt(n, 10) == s
}

// eventTold is the event with this line.
func eventTold(line string) (api.Event, bool) {
	for _, r := range rows {
		p := r.FindStringSubmatch(line)
		if p == nil || strings.Contains(line, "\n") {
			continue
		}
		e := r.e
		numbers := []string{p[1], p[2]}
		if r.tag > 0 {
			numbers = append(numbers, p[r.tag], p[r.tag+1])
		}
		var ns [4]int64
		for i, s := range numbers {
			n, good := whole(s)
			if !good {
				return api.Event{}, false
			}
			ns[i] = n
		}
		e.Client, e.Op, e.Tag = int(ns[0]), ns[1], api.Tag{Count: ns[2], Client: int(ns[3])}
		e.Key = unquote(p[3])
		if r.status > 0 {
			n, _ := whole(p[r.status])
			e.Status = api.Errno(n)
		}
		if r.value > 0 {
			e.Value = []byte(unquote(p[r.value]))
		}
		return e, whyNot(e) == 0
	}
	return api.Event{}, false
}

// parseTold is Parse.
func parseTold(s string) ([]api.Event, int, api.Errno) {
	var es []api.Event
	lines := strings.Split(s, "\n")
	for i, line := range lines {
		last := i == len(lines)-1
		if last && line == "" {
			break
		}
		e, good := eventTold(line)
		if last || !good {
			return nil, i + 1, 80
		}
		es = append(es, e)
	}
	return es, 0, 0
}

// short is anything in words, not too many: some events have long values and odd keys.
func short(x any) string {
	s := fmt.Sprintf("%+v", x)
	return strconv.QuoteToASCII(s[:min(len(s), 800)])
}

func sameEvent(a, b api.Event) bool {
	return a.Kind == b.Kind && a.Client == b.Client && a.Op == b.Op && a.Put == b.Put && a.Key == b.Key && bytes.Equal(a.Value, b.Value) && a.Status == b.Status && a.Tag == b.Tag
}

func sameEvents(a, b []api.Event) bool { return slices.EqualFunc(a, b, sameEvent) }

func sameCall(a, b api.Call) bool {
	return a.Client == b.Client && a.Op == b.Op && a.Put == b.Put && a.Key == b.Key && bytes.Equal(a.Value, b.Value) && a.Status == b.Status && a.From == b.From && a.To == b.To && a.Open == b.Open && a.Tag == b.Tag
}

func sameCalls(a, b []api.Call) bool { return slices.EqualFunc(a, b, sameCall) }

// checkParse holds Parse against the words told a second time.
func checkParse(t *testing.T, s string) {
	t.Helper()
	es, n, e := history.Parse(s)
	want, at, why := parseTold(s)
	if !sameEvents(es, want) || n != at || e != why {
		t.Fatalf("P19.5: Parse(%s) is %s, %d, %d, want %s, %d, %d", short(s), short(es), n, int(e), short(want), at, int(why))
	}
	if e == api.OK {
		if back, e := history.Text(es); back != s || e != api.OK {
			t.Fatalf("P19.6: Text of what Parse(%s) gives is %s, %d", short(s), short(back), int(e))
		}
	}
}

// checkText holds Text against the words, and Parse against Text.
func checkText(t *testing.T, es []api.Event) {
	t.Helper()
	s, e := history.Text(es)
	want := ""
	for _, x := range es {
		if why := whyNot(x); why != 0 {
			if s != "" || e != why {
				t.Fatalf("P19.4: Text(%s) is %s, %d, want %d", short(es), short(s), int(e), int(why))
			}
			return
		}
		want += lineTold(x) + "\n"
	}
	if s != want || e != api.OK {
		t.Fatalf("P19.4: Text(%s) is %s, %d, want %s", short(es), short(s), int(e), short(want))
	}
	if back, n, e := history.Parse(s); !sameEvents(back, es) || n != 0 || e != api.OK {
		t.Fatalf("P19.6: Parse of Text(%s) is %s, %d, %d", short(es), short(back), n, int(e))
	}
}

// checkCheck holds Check and Calls against the words.
func checkCheck(t *testing.T, es []api.Event) (int, api.Errno) {
	t.Helper()
	at, why := firstWrong(es)
	if i, e := history.Check(es); i != at || e != why {
		t.Fatalf("P19.1: Check(%s) is %d, %d, want %d, %d", short(es), i, int(e), at, int(why))
	}
	var want []api.Call
	if why == api.OK {
		want = callsTold(es)
	}
	if calls, e := history.Calls(es); !sameCalls(calls, want) || e != why {
		t.Fatalf("P19.2: Calls(%s) is %s, %d, want %s, %d", short(es), short(calls), int(e), short(want), int(why))
	}
	return at, why
}

// checkKeys holds Keys and Of against the words, whatever the events are.
func checkKeys(t *testing.T, es []api.Event) {
	t.Helper()
	of := map[string][]api.Event{}
	for _, e := range es {
		of[e.Key] = append(of[e.Key], e)
	}
	var want []string
	for key := range of {
		want = append(want, key)
	}
	sort.Slice(want, func(i, j int) bool { return bytes.Compare([]byte(want[i]), []byte(want[j])) < 0 })
	keys := history.Keys(es)
	if !slices.Equal(keys, want) {
		t.Fatalf("P19.3: Keys(%s) is %s, want %s", short(es), short(keys), short(want))
	}
	count := 0
	for _, key := range append(keys, "none of these") {
		got := history.Of(es, key)
		if !sameEvents(got, of[key]) {
			t.Fatalf("P19.3: Of(%s, %s) is %s, want %s", short(es), short(key), short(got), short(of[key]))
		}
		count += len(got)
	}
	if count != len(es) {
		t.Fatalf("P19.6: Of tells %d of %d events of %s", count, len(es), short(es))
	}
}

// TestEachEventByItself goes through all events of a few values of each field, at and beside each edge.
func TestEachEventByItself(t *testing.T) {
	values := [][]byte{nil, {}, {'x'}, bytes.Repeat([]byte{'y'}, 65536), bytes.Repeat([]byte{'z'}, 65537)}
	keys := []string{"", "k", strings.Repeat("x", 64), strings.Repeat("x", 65)}
	var statuses []api.Errno
	for s := api.Errno(-1); s <= 90; s++ {
		switch s {
		case -1, 0, 1, 19, 20, 21, 22, 23, 24, 25, 26, 27, 41, 42, 43, 75, 76, 77, 80:
			statuses = append(statuses, s)
		}
	}
	ops := []int64{math.MinInt64, -1, 0, 1, 2, 1<<62 - 1, 1 << 62, math.MaxInt64}
	tags := []api.Tag{{}, {Count: 1, Client: 1}, {Count: 1<<62 - 1, Client: 65535}, {Count: 0, Client: 1}, {Count: 1, Client: 0}, {Count: -1, Client: 1}, {Count: 1, Client: -1}, {Count: 1 << 62, Client: 1}, {Count: 1, Client: 65536}}
	good := 0
	for _, kind := range []int{math.MinInt, -1, 0, 1, 2, 3, 4, math.MaxInt} {
		for _, client := range []int{math.MinInt, -1, 0, 1, 2, 65535, 65536, math.MaxInt} {
			for _, put := range []bool{false, true} {
				for _, key := range keys {
					for _, value := range values {
						for _, status := range statuses {
							for _, tag := range tags {
								for _, op := range ops {
									e := api.Event{Kind: kind, Client: client, Op: op, Put: put, Key: key, Value: value, Status: status, Tag: tag}
									good += lookAt(t, e)
								}
							}
						}
					}
				}
			}
		}
	}
	// Of 3 clients, 2 keys and 3 numbers: the rows of the chapter's table, each with how many tags and values are to be told apart there, an empty value standing in two ways.
	if want := 18 * (4 + 2 + 2*2 + 2 + 2*4 + 2 + 7*3*2 + 3*2 + 2); good != want {
		t.Errorf("%d events were good, want %d", good, want)
	}
}

// lookAt looks at one event, and is 1 if it may be.
func lookAt(t *testing.T, e api.Event) int {
	es := [1]api.Event{e}
	why := whyNot(e)
	if why == api.OK {
		checkText(t, es[:])
		checkCheck(t, es[:])
		return 1
	}
	if s, f := history.Text(es[:]); s != "" || f != why {
		t.Fatalf("P19.4: Text(%s) is %s, %d, want %d", short(e), short(s), int(f), int(why))
	}
	if i, f := history.Check(es[:]); i != 0 || f != why {
		t.Fatalf("P19.1: Check(%s) is %d, %d, want 0, %d", short(e), i, int(f), int(why))
	}
	return 0
}

// TestEachStatusByItself goes through all statuses there are and many that there aren't.
func TestEachStatusByItself(t *testing.T) {
	for status := api.Errno(-300); status <= 300; status++ {
		for kind := 1; kind <= 3; kind++ {
			for _, put := range []bool{false, true} {
				for _, tag := range []api.Tag{{}, {Count: 7, Client: 8}} {
					lookAt(t, api.Event{Kind: kind, Client: 1, Op: 1, Put: put, Key: "k", Status: status, Tag: tag})
				}
			}
		}
	}
}

// letters are events of which short histories are made.
func letters() []api.Event {
	one, two := api.Tag{Count: 1, Client: 1}, api.Tag{Count: 1, Client: 2}
	return []api.Event{
		{Kind: 1, Client: 1, Op: 1, Put: true, Key: "k", Value: []byte("x")},
		{Kind: 1, Client: 1, Op: 1, Key: "k"},
		{Kind: 1, Client: 1, Op: 2, Key: "k"},
		{Kind: 1, Client: 1, Op: 2, Put: true, Key: "j"},
		{Kind: 1, Client: 1, Op: 3, Key: "k"},
		{Kind: 1, Client: 2, Op: 1, Put: true, Key: "k", Value: []byte("y")},
		{Kind: 1, Client: 2, Op: 2, Key: "k"},
		{Kind: 2, Client: 1, Op: 1, Put: true, Key: "k", Tag: one},
		{Kind: 2, Client: 1, Op: 1, Put: true, Key: "k", Status: api.ErrFull},
		{Kind: 2, Client: 1, Op: 1, Put: true, Key: "j", Tag: one},
		{Kind: 2, Client: 1, Op: 1, Key: "k", Value: []byte("y"), Tag: two},
		{Kind: 2, Client: 1, Op: 1, Key: "k", Status: api.ErrAbsent},
		{Kind: 2, Client: 1, Op: 2, Key: "k", Status: api.ErrPad, Tag: two},
		{Kind: 2, Client: 1, Op: 2, Put: true, Key: "j", Tag: one},
		{Kind: 2, Client: 2, Op: 1, Put: true, Key: "k", Tag: two},
		{Kind: 2, Client: 2, Op: 2, Key: "k", Tag: one},
		{Kind: 3, Client: 1, Op: 1, Put: true, Key: "k", Tag: one},
		{Kind: 3, Client: 1, Op: 1, Key: "k"},
		{Kind: 3, Client: 1, Op: 2, Put: true, Key: "j"},
		{Kind: 3, Client: 1, Op: 3, Key: "k"},
		{Kind: 3, Client: 2, Op: 1, Put: true, Key: "k"},
		{Kind: 2, Client: 2, Op: 1, Put: true, Key: "k"},
		{},
	}
}

// TestAllShortHistories goes through all histories of up to six of these events that may be, each with any one more behind it, and one more behind that at times.
func TestAllShortHistories(t *testing.T) {
	const deep = 6
	all := letters()
	whole := 0
	var on func(es []api.Event)
	on = func(es []api.Event) {
		checkKeys(t, es)
		at, _ := checkCheck(t, es)
		if at < 0 {
			whole++
			checkText(t, es)
		}
		if len(es) > deep || at >= 0 && at < len(es)-1 {
			return
		}
		for i, e := range all {
			if at < 0 || i%5 == len(es)%5 {
				on(append(slices.Clip(es), e))
			}
		}
	}
	on(nil)
	if whole < 1000 {
		t.Errorf("%d histories alone were whole", whole)
	}
}

// dice are numbers that look like chance, the same each time.
type dice uint64

func (d *dice) below(n int) int {
	*d = *d*6364136223846793005 + 1442695040888963407
	return int(uint64(*d)>>33) % n
}

func (d *dice) bytes(most int) []byte {
	b := make([]byte, d.below(most+1))
	for i := range b {
		b[i] = byte(d.below(256))
	}
	return b
}

// some is a long history that may be, of many clients and keys.
func some(d *dice, clients, length int) []api.Event {
	ops := make([]int64, clients+1)
	now := make([]*api.Event, clients+1)
	var es []api.Event
	for len(es) < length {
		c := d.below(clients) + 1
		if now[c] == nil {
			ops[c]++
			e := api.Event{Kind: api.Invoke, Client: c, Op: ops[c], Put: d.below(2) == 0, Key: string(rune('a' + d.below(5)))}
			if d.below(4) == 0 {
				e.Key += string(d.bytes(63))
			}
			if e.Put {
				e.Value = d.bytes(12)
			}
			now[c] = &e
			es = append(es, e)
			continue
		}
		es = append(es, someEnd(d, *now[c]))
		now[c] = nil
	}
	return es
}

func someEnd(d *dice, begun api.Event) api.Event {
	e := api.Event{Kind: api.Return + d.below(2), Client: begun.Client, Op: begun.Op, Put: begun.Put, Key: begun.Key}
	proper := api.Tag{Count: int64(d.below(1<<20)) + 1, Client: d.below(65535) + 1}
	if d.below(3) == 0 && (e.Put && e.Kind == api.Cancel) {
		return e
	}
	if e.Kind == api.Cancel && !e.Put {
		return e
	}
	e.Tag = proper
	if e.Kind == api.Cancel {
		return e
	}
	switch d.below(3) {
	case 0:
		e.Tag, e.Status = api.Tag{}, api.ErrAbsent
		if e.Put {
			e.Status = api.ErrFull
		}
	case 1:
		if !e.Put {
			e.Status = api.Errno(20 + d.below(7))
		}
	default:
		if !e.Put {
			e.Value = d.bytes(12)
		}
	}
	return e
}

// spoil changes one thing of one event.
func spoil(d *dice, es []api.Event) {
	e := &es[d.below(len(es))]
	switch d.below(8) {
	case 0:
		e.Kind = d.below(5)
	case 1:
		e.Client = d.below(5)
	case 2:
		e.Op += int64(d.below(3)) - 1
	case 3:
		e.Put = !e.Put
	case 4:
		e.Key += "x"
	case 5:
		e.Value = []byte("x")
	case 6:
		e.Status = api.Errno(d.below(80))
	case 7:
		e.Tag = api.Tag{Count: int64(d.below(3)), Client: d.below(3)}
	}
}

func TestLongHistories(t *testing.T) {
	d := dice(19)
	for round := range 400 {
		es := some(&d, 1+d.below(6), d.below(80))
		if at, e := history.Check(es); at != -1 || e != api.OK {
			t.Fatalf("round %d: a history that may be: %d, %d", round, at, int(e))
		}
		checkCheck(t, es)
		checkText(t, es)
		checkKeys(t, es)
		for range 8 {
			if len(es) > 0 {
				spoilt := slices.Clone(es)
				spoil(&d, spoilt)
				checkCheck(t, spoilt)
				checkText(t, spoilt)
				checkKeys(t, spoilt)
			}
		}
	}
}
