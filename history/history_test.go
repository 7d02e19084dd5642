package history_test

import (
	"fmt"
	"slices"
	"strings"
	"testing"

	"sherd/api"
	"sherd/history"
)

func tg(count int64, client int) api.Tag { return api.Tag{Count: count, Client: client} }

func putBegun(client int, op int64, key, value string) api.Event {
	return api.Event{Kind: api.Invoke, Client: client, Op: op, Put: true, Key: key, Value: []byte(value)}
}

func getBegun(client int, op int64, key string) api.Event {
	return api.Event{Kind: api.Invoke, Client: client, Op: op, Key: key}
}

func putDone(client int, op int64, key string, tag api.Tag) api.Event {
	return api.Event{Kind: api.Return, Client: client, Op: op, Put: true, Key: key, Tag: tag}
}

func putFull(client int, op int64, key string) api.Event {
	return api.Event{Kind: api.Return, Client: client, Op: op, Put: true, Key: key, Status: api.ErrFull}
}

func got(client int, op int64, key string, tag api.Tag, value string) api.Event {
	return api.Event{Kind: api.Return, Client: client, Op: op, Key: key, Tag: tag, Value: []byte(value)}
}

func gotNone(client int, op int64, key string) api.Event {
	return api.Event{Kind: api.Return, Client: client, Op: op, Key: key, Status: api.ErrAbsent}
}

func gotWrong(client int, op int64, key string, status api.Errno, tag api.Tag) api.Event {
	return api.Event{Kind: api.Return, Client: client, Op: op, Key: key, Status: status, Tag: tag}
}

func putGone(client int, op int64, key string, tag api.Tag) api.Event {
	return api.Event{Kind: api.Cancel, Client: client, Op: op, Put: true, Key: key, Tag: tag}
}

func getGone(client int, op int64, key string) api.Event {
	return api.Event{Kind: api.Cancel, Client: client, Op: op, Key: key}
}

func TestLinesOfTheTable(t *testing.T) {
	for _, x := range []struct {
		e    api.Event
		line string
	}{
		{putBegun(1, 1, "k", "a b\n"), `invoke 1 1 put "k" "a b\x0a"`},
		{putBegun(1, 1, "k", ""), `invoke 1 1 put "k" ""`},
		{putBegun(65535, 1<<62-1, "\x1f\x20\x21\x22\x23", "[\\]~\x7f\x80\xff\x00"), `invoke 65535 4611686018427387903 put "\x1f !\x22#" "[\x5c]~\x7f\x80\xff\x00"`},
		{getBegun(20, 300, "é"), `invoke 20 300 get "\xc3\xa9"`},
		{putDone(1, 1, "k", tg(1, 1)), `return 1 1 put "k" ok 1.1`},
		{putFull(1, 1, "k"), `return 1 1 put "k" full`},
		{got(1, 1, "k", tg(10, 203), "ok"), `return 1 1 get "k" ok 10.203 "ok"`},
		{got(1, 1, "k", tg(1<<62-1, 65535), ""), `return 1 1 get "k" ok 4611686018427387903.65535 ""`},
		{gotNone(1, 1, "k"), `return 1 1 get "k" absent`},
		{gotWrong(1, 1, "k", api.ErrFew, tg(0, 0)), `return 1 1 get "k" wrong 20 0.0`},
		{gotWrong(1, 1, "k", api.ErrWrong, tg(3, 4)), `return 1 1 get "k" wrong 26 3.4`},
		{putGone(1, 1, "k", tg(1, 1)), `cancel 1 1 put "k" 1.1`},
		{putGone(1, 1, "k", tg(0, 0)), `cancel 1 1 put "k" 0.0`},
		{getGone(1, 1, "k"), `cancel 1 1 get "k"`},
	} {
		if s, e := history.Text([]api.Event{x.e}); s != x.line+"\n" || e != api.OK {
			t.Errorf("P19.4: Text(%v) is %q, %d, want %q", x.e, s, int(e), x.line)
		}
		if es, n, e := history.Parse(x.line + "\n"); !sameEvents(es, []api.Event{x.e}) || n != 0 || e != api.OK {
			t.Errorf("P19.5: Parse(%q) is %v, %d, %d", x.line, es, n, int(e))
		}
		if twice, e := history.Text([]api.Event{x.e, x.e}); twice != x.line+"\n"+x.line+"\n" || e != api.OK {
			t.Errorf("P19.4: Text of it twice is %q, %d", twice, int(e))
		}
	}
	if s, e := history.Text(nil); s != "" || e != api.OK {
		t.Errorf("P19.4: Text of none is %q, %d", s, int(e))
	}
	if es, n, e := history.Parse(""); len(es) != 0 || n != 0 || e != api.OK {
		t.Errorf("P19.5: Parse of the empty text is %v, %d, %d", es, n, int(e))
	}
}

// TestEachByte: each byte in a key and in a value, alone and between others.
func TestEachByte(t *testing.T) {
	for c := range 256 {
		b := string([]byte{byte(c)})
		for _, s := range []string{b, "x" + b + "x", b + b} {
			checkText(t, []api.Event{putBegun(1, 1, s, s), got(1, 1, s, tg(1, 1), s), getGone(1, 1, s)})
		}
	}
}

func TestTheFirstThatMayNotBe(t *testing.T) {
	fine := getBegun(1, 1, "k")
	node, value, event := fine, fine, fine
	node.Client = 0
	value.Value = []byte("x")
	event.Op = 0
	for _, x := range []struct {
		es  []api.Event
		at  int
		why api.Errno
	}{
		{[]api.Event{node, value, event}, 0, api.ErrNode},
		{[]api.Event{fine, value, node}, 1, api.ErrValue},
		{[]api.Event{fine, event, value}, 1, api.ErrEvent},
		{[]api.Event{fine, getGone(1, 1, "k"), node}, 2, api.ErrNode},
	} {
		if s, e := history.Text(x.es); s != "" || e != x.why {
			t.Errorf("P19.4: Text(%v) is %q, %d, want %d", x.es, s, int(e), int(x.why))
		}
		if at, e := history.Check(x.es); at != x.at || e != x.why {
			t.Errorf("P19.1: Check(%v) is %d, %d, want %d, %d", x.es, at, int(e), x.at, int(x.why))
		}
		if calls, e := history.Calls(x.es); len(calls) != 0 || e != x.why {
			t.Errorf("P19.2: Calls(%v) is %v, %d, want %d", x.es, calls, int(e), int(x.why))
		}
	}
	out := []api.Event{gotNone(1, 1, "k"), node} // Text asks no places, Check does
	if _, e := history.Text(out); e != api.ErrNode {
		t.Errorf("P19.4: Text(%v) is %d", out, int(e))
	}
	if at, e := history.Check(out); at != 0 || e != api.ErrEvent {
		t.Errorf("P19.1: Check(%v) is %d, %d", out, at, int(e))
	}
}

func TestPlaces(t *testing.T) {
	for name, x := range map[string]struct {
		es []api.Event
		at int
	}{
		"none at all":            {nil, -1},
		"one begun":              {[]api.Event{getBegun(1, 1, "k")}, -1},
		"two at once":            {[]api.Event{getBegun(1, 1, "k"), getBegun(1, 2, "k")}, 1},
		"one twice":              {[]api.Event{getBegun(1, 1, "k"), getBegun(1, 1, "k")}, 1},
		"a return first":         {[]api.Event{gotNone(1, 1, "k")}, 0},
		"a cancel first":         {[]api.Event{getGone(1, 1, "k")}, 0},
		"number 2 first":         {[]api.Event{getBegun(1, 2, "k")}, 0},
		"number 1 again":         {[]api.Event{getBegun(1, 1, "k"), getGone(1, 1, "k"), getBegun(1, 1, "k")}, 2},
		"number 3 for 2":         {[]api.Event{getBegun(1, 1, "k"), getGone(1, 1, "k"), getBegun(1, 3, "k")}, 2},
		"numbers of two clients": {[]api.Event{getBegun(1, 1, "k"), getGone(1, 1, "k"), getBegun(2, 2, "k")}, 2},
		"the greatest client":    {[]api.Event{getBegun(65535, 1, "k"), getGone(65535, 1, "k"), getBegun(65535, 2, "k"), getBegun(1, 1, "k")}, -1},
		"another's return":       {[]api.Event{getBegun(1, 1, "k"), gotNone(2, 1, "k")}, 1},
		"another number":         {[]api.Event{getBegun(1, 1, "k"), gotNone(1, 2, "k")}, 1},
		"a Put's return":         {[]api.Event{getBegun(1, 1, "k"), putFull(1, 1, "k")}, 1},
		"a Get's return":         {[]api.Event{putBegun(1, 1, "k", ""), gotNone(1, 1, "k")}, 1},
		"another key":            {[]api.Event{getBegun(1, 1, "k"), gotNone(1, 1, "K")}, 1},
		"another key's cancel":   {[]api.Event{putBegun(1, 1, "k", ""), putGone(1, 1, "j", tg(0, 0))}, 1},
		"two returns":            {[]api.Event{getBegun(1, 1, "k"), gotNone(1, 1, "k"), gotNone(1, 1, "k")}, 2},
		"a return of the first":  {[]api.Event{getBegun(1, 1, "k"), gotNone(1, 1, "k"), getBegun(1, 2, "k"), gotNone(1, 1, "k")}, 3},
		"a cancel, a return":     {[]api.Event{putBegun(1, 1, "k", ""), putGone(1, 1, "k", tg(0, 0)), putDone(1, 1, "k", tg(1, 1))}, 2},
		"a return, a cancel":     {[]api.Event{putBegun(1, 1, "k", ""), putDone(1, 1, "k", tg(1, 1)), putGone(1, 1, "k", tg(1, 1))}, 2},
		"the first of two":       {[]api.Event{getBegun(1, 2, "k"), gotNone(2, 1, "k")}, 0},
		"a tag of nobody's":      {[]api.Event{putBegun(1, 1, "k", ""), putDone(1, 1, "k", tg(9, 9))}, -1}, // which tags are told is not judged here
	} {
		want := api.ErrEvent
		if x.at < 0 {
			want = api.OK
		}
		if at, e := history.Check(x.es); at != x.at || e != want {
			t.Errorf("P19.1: %s: %d, %d, want %d, %d", name, at, int(e), x.at, int(want))
		}
		if calls, e := history.Calls(x.es); e != want || want != api.OK && len(calls) != 0 {
			t.Errorf("P19.2: %s: %v, %d", name, calls, int(e))
		}
	}
}

// TestExamplesOfCheck: the second of the chapter's examples.
func TestExamplesOfCheck(t *testing.T) {
	valued := getBegun(1, 1, "k")
	valued.Value = []byte("x")
	initial := putDone(1, 1, "k", tg(0, 0))
	for _, x := range []struct {
		es  []api.Event
		at  int
		why api.Errno
	}{
		{[]api.Event{getBegun(1, 1, "k"), getBegun(1, 2, "k")}, 1, api.ErrEvent},
		{[]api.Event{valued}, 0, api.ErrValue},
		{[]api.Event{initial}, 0, api.ErrTag},
		{[]api.Event{putBegun(1, 1, "k", "x"), initial}, 1, api.ErrTag},
	} {
		if at, e := history.Check(x.es); at != x.at || e != x.why {
			t.Errorf("P19.1: Check(%v) is %d, %d, want %d, %d", x.es, at, int(e), x.at, int(x.why))
		}
	}
}

func TestCalls(t *testing.T) {
	es := []api.Event{
		putBegun(1, 1, "k", "x"), getBegun(2, 1, "k"), putGone(1, 1, "k", tg(1, 1)), got(2, 1, "k", tg(1, 1), "x"), // the chapter's third example
		putBegun(1, 2, "j", "y"), putFull(1, 2, "j"),
		getBegun(2, 2, "j"), putBegun(1, 3, "k", ""), getGone(2, 2, "j"), putDone(1, 3, "k", tg(2, 1)),
		getBegun(2, 3, "k"), gotNone(2, 3, "k"),
		getBegun(2, 4, "i"), gotWrong(2, 4, "i", api.ErrPad, tg(7, 7)),
		getBegun(2, 5, "i"), gotWrong(2, 5, "i", api.ErrLength, tg(0, 0)),
		putBegun(3, 1, "h", "z"), putGone(3, 1, "h", tg(0, 0)),
		getBegun(2, 6, "i"), putBegun(1, 4, "k", "w"),
	}
	calls, e := history.Calls(es)
	if e != api.OK {
		t.Fatalf("P19.2: Calls is %d", int(e))
	}
	want := []api.Call{
		{Client: 1, Op: 1, Put: true, Key: "k", Value: []byte("x"), Status: api.ErrGone, From: 0, To: -1, Open: true, Tag: tg(1, 1)},
		{Client: 2, Op: 1, Key: "k", Value: []byte("x"), From: 1, To: 3, Tag: tg(1, 1)},
		{Client: 1, Op: 2, Put: true, Key: "j", Value: []byte("y"), Status: api.ErrFull, From: 4, To: -1, Open: true},
		{Client: 2, Op: 2, Key: "j", Status: api.ErrGone, From: 6, To: -1},
		{Client: 1, Op: 3, Put: true, Key: "k", From: 7, To: 9, Tag: tg(2, 1)},
		{Client: 2, Op: 3, Key: "k", Status: api.ErrAbsent, From: 10, To: 11},
		{Client: 2, Op: 4, Key: "i", Status: api.ErrPad, From: 12, To: 13, Tag: tg(7, 7)},
		{Client: 2, Op: 5, Key: "i", Status: api.ErrLength, From: 14, To: 15},
		{Client: 3, Op: 1, Put: true, Key: "h", Value: []byte("z"), Status: api.ErrGone, From: 16, To: -1, Open: true},
		{Client: 2, Op: 6, Key: "i", From: 18, To: -1},
		{Client: 1, Op: 4, Put: true, Key: "k", Value: []byte("w"), From: 19, To: -1, Open: true},
	}
	if len(calls) != len(want) {
		t.Fatalf("P19.2: %d calls, want %d", len(calls), len(want))
	}
	for i := range want {
		if !sameCall(calls[i], want[i]) {
			t.Errorf("P19.2: call %d is %+v, want %+v", i, calls[i], want[i])
		}
	}
	if calls, e := history.Calls(nil); len(calls) != 0 || e != api.OK {
		t.Errorf("P19.2: Calls of none is %v, %d", calls, int(e))
	}
}

func TestKeysAndOf(t *testing.T) {
	odd := []api.Event{ // whatever they are
		{Key: "b", Kind: 9}, {Key: "\xff"}, {Key: ""}, {Key: "b", Kind: 8, Value: []byte("v")}, {Key: "B"}, {Key: "ba"}, {Key: "\x00"}, {Key: strings.Repeat("k", 99)}, {Key: "b", Kind: -1, Tag: tg(-1, -1)}, {Key: "é"}, {},
	}
	if keys := history.Keys(odd); !slices.Equal(keys, []string{"", "\x00", "B", "b", "ba", strings.Repeat("k", 99), "é", "\xff"}) {
		t.Errorf("P19.3: Keys is %q", keys)
	}
	if of := history.Of(odd, "b"); !sameEvents(of, []api.Event{odd[0], odd[3], odd[8]}) {
		t.Errorf("P19.3: Of b is %v", of)
	}
	if of := history.Of(odd, ""); !sameEvents(of, []api.Event{odd[2], odd[10]}) {
		t.Errorf("P19.3: Of no byte is %v", of)
	}
	for _, key := range []string{"a", "bb", "k", "\xc3"} {
		if of := history.Of(odd, key); len(of) != 0 {
			t.Errorf("P19.3: Of %q is %v", key, of)
		}
	}
	if keys, of := history.Keys(nil), history.Of(nil, ""); len(keys) != 0 || len(of) != 0 {
		t.Errorf("P19.3: of none: %q, %v", keys, of)
	}
	checkKeys(t, odd)
}

// TestKeysAreSorted: of many keys, in many orders, the same is told each time.
func TestKeysAreSorted(t *testing.T) {
	d := dice(3)
	var es []api.Event
	for i := range 500 {
		es = append(es, api.Event{Key: fmt.Sprint(i % 200)})
	}
	want := history.Keys(es)
	for range 20 {
		for i := range es {
			j := d.below(i + 1)
			es[i], es[j] = es[j], es[i]
		}
		if keys := history.Keys(es); !slices.Equal(keys, want) || len(keys) != 200 || !slices.IsSorted(keys) {
			t.Fatalf("P19.3: Keys is %q", keys)
		}
	}
}

// TestCallsOfAKey: an operation is told once, and those of a key come from that key's events.
func TestCallsOfAKey(t *testing.T) {
	d := dice(77)
	for range 50 {
		es := some(&d, 4, 60)
		calls, _ := history.Calls(es)
		count := 0
		for _, key := range history.Keys(es) {
			for _, e := range history.Of(es, key) {
				if e.Kind != api.Invoke {
					continue
				}
				count++
				same := slices.DeleteFunc(slices.Clone(calls), func(c api.Call) bool { return c.Client != e.Client || c.Op != e.Op })
				if len(same) != 1 || same[0].Key != key || !sameEvent(es[same[0].From], e) {
					t.Fatalf("P19.6: the calls of %v are %v", e, same)
				}
			}
		}
		if count != len(calls) {
			t.Fatalf("P19.6: %d operations, %d calls", count, len(calls))
		}
	}
}

// TestManyEvents: what is asked of a long history takes a moment alone.
func TestManyEvents(t *testing.T) {
	d := dice(1)
	es := some(&d, 1000, 100000)
	if at, e := history.Check(es); at != -1 || e != api.OK {
		t.Fatalf("P19.1: Check is %d, %d", at, int(e))
	}
	calls, _ := history.Calls(es)
	s, _ := history.Text(es)
	back, n, e := history.Parse(s)
	if !sameEvents(back, es) || n != 0 || e != api.OK || len(calls) < len(es)/2 {
		t.Fatalf("P19.6: Parse of a long text is %d events, %d, %d", len(back), n, int(e))
	}
	es[len(es)-1].Op += 5
	if at, e := history.Check(es); at != len(es)-1 || e != api.ErrEvent {
		t.Errorf("P19.1: Check of a late fault is %d, %d", at, int(e))
	}
	if _, n, e := history.Parse(s + "x"); n != len(es)+1 || e != api.ErrEvent {
		t.Errorf("P19.5: Parse of a late fault is %d, %d", n, int(e))
	}
}
