package table_test

import (
	"bytes"
	"fmt"
	"slices"
	"strings"
	"testing"

	"sherd/api"
	"sherd/table"
)

// The chapter told a second time, twice over: a paper is a list of entries in no order, gone through from its front for each question; a sum is all updates that were ever given, from which P15.7 says what there is.

type line struct {
	key string
	api.Entry
}

type paper struct {
	delta int
	lines []line
}

func less(a, b api.Tag) bool {
	return a.Count < b.Count || a.Count == b.Count && a.Client < b.Client
}

func byTag(a, b api.Tag) int {
	switch {
	case less(a, b):
		return -1
	case less(b, a):
		return 1
	}
	return 0
}

// highest is the list from the highest tag on.
func highest(tags []api.Tag) []api.Tag {
	tags = slices.Clone(tags)
	slices.SortFunc(tags, func(a, b api.Tag) int { return byTag(b, a) })
	return tags
}

func (p *paper) finals(key string) []api.Tag {
	var tags []api.Tag
	for _, l := range p.lines {
		if l.key == key && l.Fin {
			tags = append(tags, l.Tag)
		}
	}
	return highest(tags)
}

func (p *paper) top(key string) api.Tag {
	if l := p.finals(key); len(l) > 0 {
		return l[0]
	}
	return api.Tag{}
}

func (p *paper) floor(key string) api.Tag {
	if l := p.finals(key); len(l) > p.delta {
		return l[p.delta]
	}
	return api.Tag{}
}

func (p *paper) find(key string, g api.Tag) int {
	return slices.IndexFunc(p.lines, func(l line) bool { return l.key == key && l.Tag == g })
}

func (p *paper) pre(key string, g api.Tag, data []byte) bool {
	if less(g, p.floor(key)) {
		return false
	}
	at := p.find(key, g)
	if at < 0 {
		p.lines = append(p.lines, line{key, api.Entry{Tag: g, Has: true, Data: bytes.Clone(data)}})
		return true
	}
	if p.lines[at].Has {
		return false
	}
	p.lines[at].Has, p.lines[at].Data = true, bytes.Clone(data)
	return true
}

func (p *paper) fin(key string, g api.Tag) bool {
	if less(g, p.floor(key)) {
		return false
	}
	at := p.find(key, g)
	if at >= 0 && p.lines[at].Fin {
		return false
	}
	if at < 0 {
		at = len(p.lines)
		p.lines = append(p.lines, line{key, api.Entry{Tag: g}})
	}
	p.lines[at].Fin = true
	floor := p.floor(key)
	p.lines = slices.DeleteFunc(p.lines, func(l line) bool { return l.key == key && less(l.Tag, floor) })
	return true
}

// do is Apply.
func (p *paper) do(u api.Update) (bool, api.Errno) {
	if !allowed(u) {
		return false, api.ErrArg
	}
	did := false
	if u.Kind == api.UPre || u.Kind == api.UEntry && u.Entry.Has {
		did = p.pre(u.Key, u.Entry.Tag, u.Entry.Data)
	}
	if u.Kind == api.UFin || u.Kind == api.UEntry && u.Entry.Fin {
		did = p.fin(u.Key, u.Entry.Tag) || did
	}
	return did, api.OK
}

func (p *paper) copy() *paper { return &paper{p.delta, slices.Clone(p.lines)} }

func (p *paper) all() []api.Held {
	var all []api.Held
	lines := slices.Clone(p.lines)
	slices.SortFunc(lines, func(a, b line) int {
		if c := bytes.Compare([]byte(a.key), []byte(b.key)); c != 0 {
			return c
		}
		return byTag(a.Tag, b.Tag)
	})
	for _, l := range lines {
		if len(all) == 0 || all[len(all)-1].Key != l.key {
			all = append(all, api.Held{Key: l.key})
		}
		last := &all[len(all)-1]
		last.Entries = append(last.Entries, l.Entry)
	}
	return all
}

// allowed is 'An update may be' of the chapter, word for word.
func allowed(u api.Update) bool {
	e := u.Entry
	if u.Kind != 1 && u.Kind != 2 && u.Kind != 3 {
		return false
	}
	if len(u.Key) < 1 || len(u.Key) > 64 {
		return false
	}
	if e.Tag.Count < 1 || e.Tag.Count > 1<<62-1 || e.Tag.Client < 1 || e.Tag.Client > 65535 {
		return false
	}
	if len(e.Data) > 65536+4 {
		return false
	}
	if u.Kind == 1 {
		return e.Fin == false && e.Has == false
	}
	if u.Kind == 2 {
		return e.Fin == false && e.Has == false && len(e.Data) == 0
	}
	if e.Fin == false && e.Has == false {
		return false
	}
	return e.Has || len(e.Data) == 0
}

// summed is P15.7: what a table holds of all updates that it was given, whatever their order. All that bring a fragment of a tag bring the same.
func summed(delta int, us []api.Update) []api.Held {
	finals, fragments := map[string][]api.Tag{}, map[string]map[api.Tag][]byte{}
	for _, u := range us {
		if u.Kind != api.UPre && (u.Kind == api.UFin || u.Entry.Fin) && !slices.Contains(finals[u.Key], u.Entry.Tag) {
			finals[u.Key] = append(finals[u.Key], u.Entry.Tag)
		}
		if u.Kind == api.UPre || u.Entry.Has {
			if fragments[u.Key] == nil {
				fragments[u.Key] = map[api.Tag][]byte{}
			}
			fragments[u.Key][u.Entry.Tag] = u.Entry.Data
		}
	}
	p := &paper{}
	for _, key := range keysOf(us) {
		top, floor := highest(finals[key]), api.Tag{}
		if len(top) > delta {
			top = top[:delta+1]
			floor = top[delta]
		}
		for _, g := range top {
			data, has := fragments[key][g]
			p.lines = append(p.lines, line{key, api.Entry{Tag: g, Fin: true, Has: has, Data: data}})
		}
		for g, data := range fragments[key] {
			if !less(g, floor) && !slices.Contains(top, g) {
				p.lines = append(p.lines, line{key, api.Entry{Tag: g, Has: true, Data: data}})
			}
		}
	}
	return p.all()
}

func keysOf(us []api.Update) []string {
	var keys []string
	for _, u := range us {
		if !slices.Contains(keys, u.Key) {
			keys = append(keys, u.Key)
		}
	}
	return keys
}

// text is entries as the chapter's examples write them, with the fragments behind the +.
func text(es []api.Entry) string {
	var b strings.Builder
	for _, e := range es {
		fmt.Fprintf(&b, " %d.%d", e.Tag.Count, e.Tag.Client)
		if e.Has {
			fmt.Fprintf(&b, "+%q", e.Data)
		}
		if e.Fin {
			b.WriteString("!")
		}
	}
	return strings.TrimPrefix(b.String(), " ")
}

func textOfAll(all []api.Held) string {
	var b strings.Builder
	for _, h := range all {
		fmt.Fprintf(&b, "%q: %s; ", h.Key, text(h.Entries))
	}
	return b.String()
}

func sameEntry(a, b api.Entry) bool {
	return a.Tag == b.Tag && a.Fin == b.Fin && a.Has == b.Has && bytes.Equal(a.Data, b.Data)
}

func sameEntries(a, b []api.Entry) bool { return slices.EqualFunc(a, b, sameEntry) }

func sameAll(a, b []api.Held) bool {
	return slices.EqualFunc(a, b, func(x, y api.Held) bool { return x.Key == y.Key && sameEntries(x.Entries, y.Entries) })
}

func sameUpdate(a, b api.Update) bool {
	return a.Kind == b.Kind && a.Key == b.Key && sameEntry(a.Entry, b.Entry)
}

// check asks all that can be asked of a table, but Would.
func check(t *testing.T, b *table.Table, p *paper, behind ...any) {
	t.Helper()
	all := p.all()
	if got := b.All(); !sameAll(got, all) {
		t.Fatalf("P15.3: behind %v All is %s, want %s", behind, textOfAll(got), textOfAll(all))
	}
	var keys []string
	var us []api.Update
	for _, h := range all {
		keys = append(keys, h.Key)
		checkKey(t, b, p, h, behind...)
		for _, e := range h.Entries {
			us = append(us, api.Update{Kind: api.UEntry, Key: h.Key, Entry: e})
		}
	}
	if got := b.Keys(); !slices.Equal(got, keys) {
		t.Fatalf("P15.3: behind %v Keys is %q, want %q", behind, got, keys)
	}
	if got := b.Updates(); !slices.EqualFunc(got, us, sameUpdate) {
		t.Fatalf("P15.4: behind %v Updates is %v, want %v", behind, got, us)
	}
}

// around: tags beside one that is there.
func around(g api.Tag) []api.Tag {
	return []api.Tag{{Count: g.Count, Client: g.Client + 1}, {Count: g.Count, Client: g.Client - 1}, {Count: g.Count + 1, Client: g.Client}, {Count: g.Count - 1, Client: g.Client}}
}

func checkKey(t *testing.T, b *table.Table, p *paper, h api.Held, behind ...any) {
	t.Helper()
	if got := b.Entries(h.Key); !sameEntries(got, h.Entries) {
		t.Fatalf("P15.3: behind %v Entries(%q) is %s, want %s", behind, h.Key, text(got), text(h.Entries))
	}
	if got, want := b.Top(h.Key), p.top(h.Key); got != want {
		t.Fatalf("P15.3: behind %v Top(%q) is %v, want %v", behind, h.Key, got, want)
	}
	if got, want := b.Floor(h.Key), p.floor(h.Key); got != want {
		t.Fatalf("P15.3: behind %v Floor(%q) is %v, want %v", behind, h.Key, got, want)
	}
	fragments := 0
	for _, e := range h.Entries {
		if e.Has {
			fragments++
		}
		if got, ok := b.Get(h.Key, e.Tag); !ok || !sameEntry(got, e) {
			t.Fatalf("P15.3: behind %v Get(%q, %v) is %v, %v, want %v", behind, h.Key, e.Tag, got, ok, e)
		}
		for _, g := range around(e.Tag) {
			if got, ok := b.Get(h.Key, g); ok != (p.find(h.Key, g) >= 0) || !ok && !sameEntry(got, api.Entry{}) {
				t.Fatalf("P15.3: behind %v Get(%q, %v) is %v, %v", behind, h.Key, g, got, ok)
			}
		}
	}
	if got := b.Fragments(h.Key); got != fragments {
		t.Fatalf("P15.3: behind %v Fragments(%q) is %d, want %d", behind, h.Key, got, fragments)
	}
}

// checkHolds is P15.6.
func checkHolds(t *testing.T, b *table.Table, delta int, behind ...any) {
	t.Helper()
	for _, h := range b.All() {
		finals, floor := 0, b.Floor(h.Key)
		for _, e := range h.Entries {
			if e.Fin {
				finals++
			}
			if less(e.Tag, floor) || !e.Fin && !e.Has {
				t.Fatalf("P15.6: behind %v %q has %s, its floor is %v", behind, h.Key, text(h.Entries), floor)
			}
		}
		if finals > delta+1 {
			t.Fatalf("P15.6: behind %v %d entries of %q are finalized, delta is %d", behind, finals, h.Key, delta)
		}
		if len(h.Entries) == 0 {
			t.Fatalf("P15.3: behind %v %q is told, and has no entry", behind, h.Key)
		}
	}
}

// do has a table and its paper go on by one update, and tells whether it changed anything.
func do(t *testing.T, b *table.Table, p *paper, u api.Update) bool {
	t.Helper()
	top, floor := b.Top(u.Key), b.Floor(u.Key)
	would, e := b.Would(u)
	check(t, b, p, "Would of", u)
	did, f := b.Apply(u)
	want, g := p.do(u)
	if would != want || e != g {
		t.Fatalf("P15.2: Would(%v) is %v, %d, want %v, %d", u, would, e, want, g)
	}
	if did != want || f != g {
		t.Fatalf("P15.2: Apply(%v) is %v, %d, want %v, %d", u, did, f, want, g)
	}
	check(t, b, p, "Apply of", u)
	checkHolds(t, b, p.delta, "Apply of", u)
	if less(b.Top(u.Key), top) || less(b.Floor(u.Key), floor) {
		t.Fatalf("P15.6: Apply(%v): top was %v, is %v; floor was %v, is %v", u, top, b.Top(u.Key), floor, b.Floor(u.Key))
	}
	return did
}

// both is a new table and its paper.
func both(t *testing.T, delta int) (*table.Table, *paper) {
	t.Helper()
	b, e := table.New(delta)
	if b == nil || e != api.OK {
		t.Fatalf("P15.1: New(%d) is %v, %d", delta, b, e)
	}
	p := &paper{delta: delta}
	check(t, b, p, "New")
	return b, p
}

func tg(count int64, client int) api.Tag { return api.Tag{Count: count, Client: client} }

func pre(key string, g api.Tag, data string) api.Update {
	return api.Update{Kind: api.UPre, Key: key, Entry: api.Entry{Tag: g, Data: []byte(data)}}
}

func fin(key string, g api.Tag) api.Update {
	return api.Update{Kind: api.UFin, Key: key, Entry: api.Entry{Tag: g}}
}

// stood is a UEntry that has a fragment.
func stood(key string, g api.Tag, isFin bool, data string) api.Update {
	return api.Update{Kind: api.UEntry, Key: key, Entry: api.Entry{Tag: g, Fin: isFin, Has: true, Data: []byte(data)}}
}

// bare is a UEntry without a fragment.
func bare(key string, g api.Tag) api.Update {
	return api.Update{Kind: api.UEntry, Key: key, Entry: api.Entry{Tag: g, Fin: true}}
}
