package record_test

import (
	"bytes"
	"encoding/hex"
	"fmt"
	"strings"
	"testing"

	"sherd/api"
	"sherd/record"
)

func fin(key string, count int64, client int) api.Update {
	return api.Update{Kind: api.UFin, Key: key, Entry: api.Entry{Tag: api.Tag{Count: count, Client: client}}}
}

func pre(key string, count int64, client int, data string) api.Update {
	return api.Update{Kind: api.UPre, Key: key, Entry: api.Entry{Tag: api.Tag{Count: count, Client: client}, Data: []byte(data)}}
}

var example = api.Head{Config: api.Config{N: 5, K: 2, Delta: 1}, Server: 3}

func fromHex(t *testing.T, text string) []byte {
	t.Helper()
	b, err := hex.DecodeString(text)
	if err != nil {
		t.Fatal(err)
	}
	return b
}

func TestNewExamples(t *testing.T) {
	w, head, e := record.New(example)
	want := fromHex(t, "4805020103")
	if e != api.OK || w == nil || w.Count() != 0 || !bytes.Equal(head, append(want, sumOf(want)...)) {
		t.Errorf("P11.1: New of %v: %x, %d", example, head, e)
	}
	for _, c := range []struct {
		h api.Head
		e api.Errno
	}{
		{api.Head{}, api.ErrConfig}, {api.Head{Config: api.Config{N: 0, K: 2, Delta: 1}, Server: 3}, api.ErrConfig}, {api.Head{Config: example.Config, Server: 5}, api.ErrNode},
	} {
		if w, head, e := record.New(c.h); w != nil || len(head) != 0 || e != c.e {
			t.Errorf("P11.1: New of %v: %x, %d, want %d", c.h, head, e, c.e)
		}
	}
}

// TestNewOfAllEdges: each number of a head from below to above what may be, all beside each other.
func TestNewOfAllEdges(t *testing.T) {
	count := map[api.Errno]int{}
	for _, n := range []int{-1, 0, 1, 2, 3, 127, 128, 254, 255, 256} {
		for _, k := range []int{-1, 0, 1, 2, 3, 4, 127, 128, 254, 255, 256} {
			for _, delta := range []int{-1 << 63, -1, 0, 1, 127, 128, greatest, greatest + 1, 1<<63 - 1} {
				for _, server := range []int{-1 << 63, -1, 0, 1, 2, 3, 4, n - 2, n - 1, n, n + 1, 256, 1<<63 - 1} {
					h := api.Head{Config: api.Config{N: n, K: k, Delta: delta}, Server: server}
					want := headErrno(h)
					count[want]++
					w, head, e := record.New(h)
					if e != want || (w == nil) != (e != api.OK) || w.Count() != 0 {
						t.Fatalf("P11.1: New of %v: %d, want %d", h, e, want)
					}
					if e != api.OK && len(head) != 0 || e == api.OK && !bytes.Equal(head, headBytes(h)) {
						t.Fatalf("P11.1: New of %v: the head %x", h, head)
					}
				}
			}
		}
	}
	if len(count) != 3 || count[api.OK] < 300 || count[api.ErrNode] < 300 {
		t.Errorf("the test says little: %v", count)
	}
}

func TestPutExamples(t *testing.T) {
	w, head, _ := record.New(example)
	ahead := head[len(head)-4:]
	entry := api.Update{Kind: api.UEntry, Key: "k", Entry: api.Entry{Tag: api.Tag{Count: 1, Client: 7}, Fin: true}}
	for n, c := range []struct {
		u    api.Update
		want string
	}{
		{fin("k", 1, 7), "52050201" + "6b" + "0107"}, {pre("k", 1, 7, "\xab\xcd"), "52080101" + "6b" + "0107" + "02abcd"}, {entry, "52070301" + "6b" + "0107" + "0100"},
	} {
		want := fromHex(t, c.want)
		want = append(want, sumOf(ahead, want)...)
		got, e := w.Put(c.u)
		if e != api.OK || !bytes.Equal(got, want) || w.Count() != n+1 {
			t.Fatalf("P11.2: Put of %v: %x, %d, Count %d, want %x", c.u, got, e, w.Count(), want)
		}
		ahead = want[len(want)-4:]
	}
	for _, c := range []struct {
		u api.Update
		e api.Errno
	}{{fin("", 1, 7), api.ErrKey}, {fin("k", 0, 0), api.ErrTag}, {api.Update{}, api.ErrKind}} {
		if got, e := w.Put(c.u); len(got) != 0 || e != c.e || w.Count() != 3 {
			t.Errorf("P11.2: Put of %v: %x, %d, want %d", c.u, got, e, c.e)
		}
	}
}

// checkPut holds one Put against the chapter's words: log is what the writer has made so far, the answer what it has made then.
func checkPut(t *testing.T, w *record.Writer, log []byte, u api.Update) []byte {
	t.Helper()
	before := w.Count()
	want := updateErrno(u)
	got, e := w.Put(u)
	if e != want {
		t.Fatalf("P11.2: Put of kind %d, a key of %d, %v, %v, %v, %d bytes: %d, want %d", u.Kind, len(u.Key), u.Entry.Tag, u.Entry.Fin, u.Entry.Has, len(u.Entry.Data), e, want)
	}
	if e != api.OK {
		if len(got) != 0 || w.Count() != before {
			t.Fatalf("P11.2: a Put that was refused with %d answers %x, Count %d", e, got, w.Count())
		}
		return log
	}
	all := with(log, bodyBytes(u))
	if !bytes.Equal(got, all[len(log):]) || w.Count() != before+1 {
		t.Fatalf("P11.2: Put of kind %d: %x, want %x; Count %d", u.Kind, brief(got), brief(all[len(log):]), w.Count())
	}
	return all
}

// TestPutOfAllEdges: each part of an update from below to above what may be, all beside each other, on one writer: so the refused ones leave no trace in the sums.
func TestPutOfAllEdges(t *testing.T) {
	keys := []string{"", "k", strings.Repeat("k", 64), strings.Repeat("k", 65), strings.Repeat("k", 300)}
	tags := []api.Tag{{}, {Count: 1, Client: 1}, {Count: 0, Client: 1}, {Count: 1, Client: 0}, {Count: -1, Client: 1}, {Count: 1, Client: -1}, {Count: greatest, Client: 65535}, {Count: greatest + 1, Client: 1}, {Count: 1, Client: 65536}, {Count: -1 << 63, Client: 1 << 62}}
	datas := [][]byte{nil, {}, {7}, make([]byte, 65540), make([]byte, 65541), make([]byte, 70000)}
	count := map[api.Errno]int{}
	for _, kind := range []int{-1 << 63, -1, 0, 1, 2, 3, 4, 5, 257, 258, 259, 1<<63 - 1} {
		w, log, _ := record.New(example)
		for _, key := range keys {
			for _, tag := range tags {
				for flags := range 4 {
					for _, data := range datas {
						u := api.Update{Kind: kind, Key: key, Entry: api.Entry{Tag: tag, Fin: flags&1 != 0, Has: flags&2 != 0, Data: data}}
						count[updateErrno(u)]++
						log = checkPut(t, w, log, u)
						log = log[max(0, len(log)-20):] // no more of it plays a part
					}
				}
			}
		}
	}
	for _, e := range []api.Errno{api.OK, api.ErrKind, api.ErrKey, api.ErrTag, api.ErrForm, api.ErrValue} {
		if count[e] < 5 {
			t.Errorf("%d came but %d times: the test says little", e, count[e])
		}
	}
}

// TestPutsBehindEachOther: logs of many records, whatever stands ahead.
func TestPutsBehindEachOther(t *testing.T) {
	r := random()
	for _, h := range edgeHeads() {
		w, log, e := record.New(h)
		if e != api.OK || !bytes.Equal(log, headBytes(h)) {
			t.Fatalf("P11.1: New of %v: %x, %d", h, log, e)
		}
		for range 40 {
			log = checkPut(t, w, log, someUpdate(r))
		}
	}
	w, log, _ := record.New(example)
	for _, u := range edgeUpdates() {
		log = checkPut(t, w, log, u)
	}
}

// TestUnusedIsNotLookedAt: whatever stands in what a kind doesn't use, the record is that of the update in its own form.
func TestUnusedIsNotLookedAt(t *testing.T) {
	r := random()
	differ := 0
	for range 2000 {
		u := someUpdate(r)
		if r.IntN(20) == 0 && u.Kind == 2 {
			u.Entry.Data = make([]byte, 66000+r.IntN(9))
		}
		own := ownForm(u)
		if fmt.Sprint(own) != fmt.Sprint(u) {
			differ++
		}
		a, _, _ := record.New(example)
		b, _, _ := record.New(example)
		x, e := a.Put(u)
		y, f := b.Put(own)
		if e != api.OK || f != api.OK || !bytes.Equal(x, y) {
			t.Fatalf("P11.2: %v is %x, %d, in its own form %x, %d", u, x, e, y, f)
		}
	}
	if differ < 500 {
		t.Errorf("only %d had what they don't use: the test says little", differ)
	}
}

// TestRecordsHangOnAllAhead: the same update has another sum behind another head, and behind another record.
func TestRecordsHangOnAllAhead(t *testing.T) {
	sums := map[string]int{}
	for _, h := range edgeHeads() {
		for first := range 4 {
			w, _, _ := record.New(h)
			for n := range first {
				w.Put(fin("k", int64(n+1), 1))
			}
			b, _ := w.Put(fin("last", 9, 9))
			sums[string(b[len(b)-4:])]++
		}
	}
	different := map[string]bool{}
	for _, h := range edgeHeads() {
		different[fmt.Sprint(h)] = true
	}
	if len(sums) != 4*len(different) {
		t.Errorf("P11.2: %d sums of %d logs", len(sums), 4*len(different))
	}
}

func TestNilWriter(t *testing.T) {
	var w *record.Writer
	for _, u := range []api.Update{{}, fin("k", 1, 1), fin("", 1, 1), pre("k", 1, 1, "data")} {
		if b, e := w.Put(u); len(b) != 0 || e != api.OK || w.Count() != 0 {
			t.Errorf("P11.7: Put on a nil writer: %x, %d, Count %d", b, e, w.Count())
		}
	}
}
