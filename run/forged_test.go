package run_test

import (
	"encoding/binary"
	"math/rand/v2"
	"strings"
	"testing"

	"sherd/api"
	"sherd/frame"
	"sherd/run"
)

// forge turns the last datagram in flight, by a cut and bursts upon bursts, into another message whose frame is no longer.
func (w *world) forge(change func(m *api.Message)) {
	w.t.Helper()
	if change == nil {
		return
	}
	flight := w.c.Flight()
	old := flight[len(flight)-1].Data
	m, e := frame.Decode(old)
	if e != api.OK {
		w.t.Fatalf("the last datagram is %x: %d", old, int(e))
	}
	change(&m)
	data, e := frame.Encode(m)
	if e != api.OK || len(data) > len(old) {
		w.t.Fatalf("%+v has a frame of %d bytes, not %d: %d", m, len(data), len(old), int(e))
	}
	w.step(api.Step{Kind: api.SCut, A: -1, B: len(data)})
	for at := 0; at < len(data); at += 4 {
		var a, b [4]byte
		copy(a[:], old[at:len(data)])
		copy(b[:], data[at:])
		pattern := binary.LittleEndian.Uint32(a[:]) ^ binary.LittleEndian.Uint32(b[:])
		w.step(api.Step{Kind: api.SBurst, A: -1, B: 8 * at, L: []int{int(pattern)}})
	}
}

// forged is a world of one server and one client, in which anything may come.
func forged(t *testing.T) *world {
	t.Helper()
	w := newWorld(t, rand.New(rand.NewPCG(25, 7)), api.Config{N: 1, K: 1}, 1, seen{})
	w.rough = true
	return w
}

// clear leaves nothing in flight, so that what comes next comes alone.
func (w *world) clear() {
	for len(w.c.Flight()) > 0 {
		w.step(api.Step{Kind: api.SDrop})
	}
}

// put has a Put end.
func (w *world) put(key, value string) {
	w.clear()
	w.step(put(1, key, value))
	w.step(round(6))
}

// get has a Get end; what it is told, what it asks for and what it is given may be changed.
func (w *world) get(key string, told, read, gave func(m *api.Message)) {
	w.t.Helper()
	w.clear()
	w.step(get(1, key))
	for _, change := range []func(m *api.Message){nil, told, read, gave} {
		w.forge(change)
		w.step(deliver(0))
	}
	if last := w.told[len(w.told)-1].Events; len(last) != 1 || last[0].Kind != api.Return {
		w.t.Fatalf("the Get has not ended: %+v", last)
	}
}

// wrongValue: a Get tells what nobody put.
func (w *world) wrongValue(key string) {
	w.t.Helper()
	w.get(key, nil, nil, func(m *api.Message) { m.Data[len(m.Data)-1] ^= 1 })
}

// wrongTag: a Get tells what was put, with a tag that no Put has.
func (w *world) wrongTag(key string) {
	w.t.Helper()
	w.get(key, func(m *api.Message) { m.Top.Client = 9 }, func(m *api.Message) { m.Tag.Client = 1 }, func(m *api.Message) { m.Tag.Client, m.Top.Client = 9, 9 })
}

// wholeIs looks at what is said of a forged script.
func (w *world) wholeIs(linear, heavy, byTags bool) {
	w.t.Helper()
	s := w.compare()
	if s.Linear != linear || s.Heavy != heavy || s.ByTags != byTags {
		w.t.Errorf("P25.2: linear %v, heavy %v, by tags %v, want %v, %v, %v", s.Linear, s.Heavy, s.ByTags, linear, heavy, byTags)
	}
	word := map[bool]string{true: "yes", false: "no"}
	said := word[linear]
	if heavy {
		said = "heavy"
	}
	if got := run.Text(w.text()); !strings.HasSuffix(got, "linear "+said+"\ntags "+word[byTags]+"\n") {
		w.t.Errorf("P25.3: Text is %q", got)
	}
	textIs(w.t, w.text(), storyByWords(w.story()))
}

// TestNotLinear: what no order explains is told so, whichever keys it is of.
func TestNotLinear(t *testing.T) {
	w := forged(t)
	w.put("k", "x")
	w.get("k", nil, nil, nil)
	w.wholeIs(true, false, true)
	w.wrongValue("k")
	w.wholeIs(false, false, false)
	w.get("k", nil, nil, nil)
	w.wholeIs(false, false, false)
	for wrong := range 8 {
		w := forged(t)
		for i, key := range []string{"b", "a", "c"} {
			w.put(key, "x")
			if wrong>>i&1 == 1 {
				w.wrongValue(key)
			}
		}
		w.wholeIs(wrong == 0, false, wrong == 0)
	}
}

// TestNotByTags: what can be explained, but not by its tags.
func TestNotByTags(t *testing.T) {
	for wrong := range 8 {
		w := forged(t)
		for i, key := range []string{"b", "a", "c"} {
			w.put(key, "x")
			if wrong>>i&1 == 1 {
				w.wrongTag(key)
			}
			w.get(key, nil, nil, nil)
		}
		w.wholeIs(true, false, wrong == 0)
	}
}

// TestHeavyAndWrong: the first key by its bytes that is either decides of linear; the tags are asked of each.
func TestHeavyAndWrong(t *testing.T) {
	for _, x := range []struct {
		heavy, wrong string
		isHeavy      bool
	}{{"a", "b", true}, {"b", "a", false}, {"a", "a", true}} {
		for _, keys := range []string{"ab", "ba"} {
			for _, onlyTags := range []bool{false, true} {
				w := forged(t)
				for _, key := range strings.Split(keys, "") {
					w.put(key, "x")
					for range 25 {
						if key == x.heavy {
							w.put(key, "x")
						}
					}
					switch {
					case key != x.wrong:
					case onlyTags:
						w.wrongTag(key)
					default:
						w.wrongValue(key)
					}
				}
				w.wholeIs(false, x.isHeavy || onlyTags, false)
			}
		}
	}
}

// TestWrongStatus: a Get that ends otherwise is told, and has no part in any order.
func TestWrongStatus(t *testing.T) {
	w := forged(t)
	w.put("k", "x")
	w.get("k", nil, nil, func(m *api.Message) { m.Data[0] = 100 })
	w.wholeIs(true, false, true)
	if got := run.Text(w.text()); !strings.Contains(got, " return 1 2 get \"k\" wrong 25 1.1\n") {
		t.Errorf("P25.3: Text is %q", got)
	}
}

// TestFull: a Put for which there is no tag any more is told, and may have taken effect or not.
func TestFull(t *testing.T) {
	w := forged(t)
	w.step(get(1, strings.Repeat("long", 16)))
	w.step(deliver(0))
	w.step(cancel(1))
	w.step(put(1, "k", "x"))
	w.step(api.Step{Kind: api.SDrop, A: 1})
	w.forge(func(m *api.Message) { m.Op, m.Key, m.Top = 2, "k", api.Tag{Count: api.MaxCount, Client: 1} })
	w.step(deliver(0))
	w.wholeIs(true, false, true)
	if got := run.Text(w.text()); !strings.Contains(got, " return 1 2 put \"k\" full\n") {
		t.Errorf("P25.3: Text is %q", got)
	}
}
