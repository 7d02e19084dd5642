package linear_test

import (
	"fmt"
	"math/rand"
	"slices"
	"testing"

	"sherd/api"
	"sherd/history"
	"sherd/linear"
)

// book writes a history down: clients begin and end operations.
type book struct {
	es  []api.Event
	ops map[int]int64
	now map[int]api.Event
}

func newBook() *book { return &book{ops: map[int]int64{}, now: map[int]api.Event{}} }

func (b *book) begin(client int, isPut bool, key, value string) {
	b.ops[client]++
	e := api.Event{Kind: api.Invoke, Client: client, Op: b.ops[client], Put: isPut, Key: key}
	if isPut {
		e.Value = []byte(value)
	}
	b.now[client] = e
	b.es = append(b.es, e)
}

// end is how what a client has under way returns; value "-" of a Get: ErrAbsent.
func (b *book) end(client int, status api.Errno, value string) {
	e := b.now[client]
	delete(b.now, client)
	e.Kind, e.Value, e.Status, e.Tag = api.Return, nil, status, api.Tag{Count: 1, Client: 1}
	switch {
	case !e.Put && value == "-":
		e.Status, e.Tag = api.ErrAbsent, api.Tag{}
	case !e.Put && status == api.OK:
		e.Value = []byte(value)
	case status == api.ErrFull:
		e.Tag = api.Tag{}
	}
	b.es = append(b.es, e)
}

func (b *book) cancel(client int) {
	e := b.now[client]
	delete(b.now, client)
	e.Kind, e.Value = api.Cancel, nil
	b.es = append(b.es, e)
}

func (b *book) put(client int, key, value string) {
	b.begin(client, true, key, value)
	b.end(client, api.OK, "")
}

func (b *book) get(client int, key, value string) {
	b.begin(client, false, key, "")
	b.end(client, api.OK, value)
}

// heavy is one more Put of a key than may be gone through.
func (b *book) heavy(client int, key string) {
	for range 25 {
		b.put(client, key, "v")
	}
}

func judge(t *testing.T, es []api.Event, key string, ok bool, e api.Errno) {
	t.Helper()
	if at, why := history.Check(es); at >= 0 && (ok || e == api.OK) {
		t.Fatalf("no history: event %d: %d", at, int(why))
	}
	if k, is, why := linear.All(es); k != key || is != ok || why != e {
		text, _ := history.Text(es)
		t.Errorf("P20.2: All is %q, %v, %d, want %q, %v, %d, of\n%.3000s", k, is, int(why), key, ok, int(e), text)
	}
}

func TestAllOfFew(t *testing.T) {
	judge(t, nil, "", true, api.OK)
	b := newBook()
	b.begin(1, true, "k", "x")
	judge(t, b.es, "", true, api.OK)
	b.end(1, api.OK, "")
	judge(t, b.es, "", true, api.OK)
	b.get(2, "k", "x")
	judge(t, b.es, "", true, api.OK)
	b.begin(2, false, "k", "")
	judge(t, b.es, "", true, api.OK)
	b.end(2, api.OK, "y")
	judge(t, b.es, "k", false, api.OK)

	b = newBook() // beside one another
	b.begin(1, true, "k", "x")
	b.begin(2, false, "k", "")
	b.end(2, api.OK, "-")
	b.end(1, api.OK, "")
	judge(t, b.es, "", true, api.OK)
	b.get(2, "k", "-")
	judge(t, b.es, "k", false, api.OK)

	b = newBook() // open ones: cancelled, full, under way
	b.begin(1, true, "k", "x")
	b.cancel(1)
	b.get(2, "k", "-")
	b.begin(1, true, "k", "y")
	b.end(1, api.ErrFull, "")
	b.begin(1, true, "k", "z")
	for _, value := range []string{"-", "y", "z", "x"} {
		b.get(2, "k", value)
		judge(t, b.es, "", true, api.OK)
	}
	b.begin(2, false, "k", "")
	b.cancel(2)
	b.begin(2, false, "k", "")
	b.end(2, api.ErrLength, "")
	judge(t, b.es, "", true, api.OK)
	b.get(2, "k", "-")
	judge(t, b.es, "k", false, api.OK)
}

// TestKeysApart: what is done under one key explains nothing of another.
func TestKeysApart(t *testing.T) {
	b := newBook()
	b.put(1, "a", "x")
	b.put(1, "b", "y")
	b.get(2, "a", "x")
	b.get(2, "b", "y")
	b.get(2, "c", "-")
	judge(t, b.es, "", true, api.OK)
	b.get(2, "b", "x")
	judge(t, b.es, "b", false, api.OK)
}

func TestRefusedHistories(t *testing.T) {
	b := newBook()
	b.get(1, "k", "x") // can't be explained, but what is no history is not judged
	judge(t, append(slices.Clone(b.es), b.es[1]), "", false, api.ErrEvent)
	judge(t, b.es[1:], "", false, api.ErrEvent)
	for _, x := range []struct {
		e   api.Event
		why api.Errno
	}{
		{api.Event{}, api.ErrKind},
		{api.Event{Kind: api.Invoke, Op: 1, Key: "k"}, api.ErrNode},
		{api.Event{Kind: api.Invoke, Client: 2, Op: 1}, api.ErrKey},
		{api.Event{Kind: api.Invoke, Client: 2, Op: 1, Key: "k", Value: []byte("x")}, api.ErrValue},
		{api.Event{Kind: api.Invoke, Client: 2, Op: 1, Key: "k", Tag: api.Tag{Count: 1, Client: 1}}, api.ErrTag},
		{api.Event{Kind: api.Invoke, Client: 2, Op: 2, Key: "k"}, api.ErrEvent},
	} {
		judge(t, append(slices.Clone(b.es), x.e), "", false, x.why)
	}
	b.heavy(1, "h")
	judge(t, append(slices.Clone(b.es), api.Event{}), "", false, api.ErrKind)
}

// TestWhichKeyDecides: keys that can be explained, can't be, or are too heavy, in each order of three.
func TestWhichKeyDecides(t *testing.T) {
	for _, keys := range [][]string{{"a", "b", "c"}, {"A", "B", "a"}, {"a", "a\x00", "aa"}, {"\x00", "\x7f", "\x80"}, {"z", "é", "\xff"}} {
		for n := range 27 {
			what := []int{n / 9, n / 3 % 3, n % 3}
			for _, places := range [][]int{{0, 1, 2}, {2, 1, 0}, {1, 2, 0}} {
				b := newBook()
				for _, i := range places {
					switch what[i] {
					case 0:
						b.put(1, keys[i], "x")
					case 1:
						b.get(1, keys[i], "x")
					default:
						b.heavy(1, keys[i])
						b.get(1, keys[i], "x")
					}
				}
				first := slices.IndexFunc(what, func(w int) bool { return w > 0 })
				switch {
				case first < 0:
					judge(t, b.es, "", true, api.OK)
				case what[first] == 1:
					judge(t, b.es, keys[first], false, api.OK)
				default:
					judge(t, b.es, "", false, api.ErrHeavy)
				}
			}
		}
	}
}

// TestJustSoManyOfAKey: how many calls a history has is nothing, how many of a key have a part counts.
func TestJustSoManyOfAKey(t *testing.T) {
	b := newBook()
	for _, key := range []string{"a", "b", "c"} {
		for range 22 {
			b.put(1, key, "x")
		}
		b.get(1, key, "x")
		for range 30 {
			b.begin(1, false, key, "")
			b.cancel(1)
			b.begin(1, false, key, "")
			b.end(1, api.ErrPad, "")
		}
		b.begin(1, true, key, "y")
		b.cancel(1)
	}
	judge(t, b.es, "", true, api.OK)
	b.get(1, "b", "y")
	judge(t, b.es, "", false, api.ErrHeavy)
	b.get(1, "a", "y")
	judge(t, b.es, "", false, api.ErrHeavy)
	b.get(1, "0", "y")
	judge(t, b.es, "0", false, api.OK)
}

// TestManyKeys: the one that decides at each end, wherever many are cut.
func TestManyKeys(t *testing.T) {
	for _, count := range []int{1, 2, 255, 256, 257, 511, 512, 513, 1500} {
		fine := newBook()
		for _, i := range rand.New(rand.NewSource(int64(count))).Perm(count) {
			fine.put(1+i%7, fmt.Sprintf("k%05d", i), "x")
		}
		judge(t, fine.es, "", true, api.OK)
		for _, at := range []int{0, 1, count / 2, 254, 255, 256, 257, 511, 512, count - 1} {
			if at >= count {
				continue
			}
			b := newBook()
			for i := count - 1; i >= 0; i-- {
				if i == at || i > at && i%5 == 0 {
					b.get(1, fmt.Sprintf("k%05d", i), "x")
				} else {
					b.put(1, fmt.Sprintf("k%05d", i), "x")
				}
			}
			judge(t, b.es, fmt.Sprintf("k%05d", at), false, api.OK)
			b.heavy(3, fmt.Sprintf("k%05d", at))
			judge(t, b.es, "", false, api.ErrHeavy)
		}
	}
}

// judgedByWords is All of a history that may be, key by key, with the chapter's words told a second time.
func judgedByWords(es []api.Event) (string, bool, api.Errno) {
	calls, _ := history.Calls(es)
	var keys []string
	for _, c := range calls {
		keys = append(keys, c.Key)
	}
	slices.Sort(keys)
	for _, key := range slices.Compact(keys) {
		var of []api.Call
		for _, c := range calls {
			if c.Key == key && (mustBe(c) || mayBe(c)) {
				of = append(of, c)
			}
		}
		if len(of) > 24 {
			return "", false, 4
		}
		if _, ok := firstFound(of); !ok {
			return key, false, 0
		}
	}
	return "", true, 0
}

// drawnHistory is a history of some clients and keys, in which each Get tells what the last Put of its key that has returned or was begun has put, but for a few.
func drawnHistory(r *rand.Rand, clients, keys, steps, wrong int) []api.Event {
	b := newBook()
	held := map[string]string{}
	for range steps {
		client := 1 + r.Intn(clients)
		e, busy := b.now[client]
		key := fmt.Sprint("k", r.Intn(keys))
		value := string(rune('a' + r.Intn(3)))
		switch k := r.Intn(12); {
		case !busy && k < 5:
			b.begin(client, true, key, value)
			if r.Intn(2) == 0 {
				held[key] = value
			}
		case !busy:
			b.begin(client, false, key, "")
		case k == 0:
			b.cancel(client)
		case e.Put && k == 1:
			b.end(client, api.ErrFull, "")
		case e.Put:
			held[e.Key] = string(e.Value)
			b.end(client, api.OK, "")
		case k == 1:
			b.end(client, api.ErrWrong, "")
		case r.Intn(100) < wrong:
			b.end(client, api.OK, value)
		case held[e.Key] == "":
			b.end(client, api.OK, "-")
		default:
			b.end(client, api.OK, held[e.Key])
		}
	}
	return b.es
}

func TestDrawnHistories(t *testing.T) {
	r := rand.New(rand.NewSource(25))
	yes, no := 0, 0
	for range 3000 {
		es := drawnHistory(r, 1+r.Intn(4), 1+r.Intn(4), 1+r.Intn(60), r.Intn(30))
		key, ok, e := judgedByWords(es)
		judge(t, es, key, ok, e)
		if ok {
			yes++
		} else if e == api.OK {
			no++
		}
	}
	if yes < 500 || no < 500 {
		t.Errorf("too much of one kind: %d, %d", yes, no)
	}
}
