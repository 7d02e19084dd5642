package scrub_test

import (
	"bytes"
	"fmt"
	"slices"
	"strings"
	"testing"

	"sherd/api"
	"sherd/code"
	"sherd/scrub"
	"sherd/stripe"
)

// The chapter told a second time: tables are gone through from their front for each question.

func tg(count int64, client int) api.Tag { return api.Tag{Count: count, Client: client} }

func less(a, b api.Tag) bool {
	return a.Count < b.Count || a.Count == b.Count && a.Client < b.Client
}

func byTag(a, b api.Tag) int {
	switch {
	case less(a, b):
		return -1
	case less(b, a):
		return 1
	}
	return 0
}

func made(c api.Config) *code.Code {
	made, _ := code.New(c.N, c.K)
	return made
}

// allowed is 'A table may be looked at' of the chapter, word for word.
func allowed(table []api.Held, delta int) bool {
	for i, h := range table {
		if i > 0 && bytes.Compare([]byte(table[i-1].Key), []byte(h.Key)) >= 0 {
			return false
		}
		if len(h.Key) < 1 || len(h.Key) > 64 || len(h.Entries) < 1 {
			return false
		}
		var finals []api.Tag
		for j, e := range h.Entries {
			if j > 0 && !less(h.Entries[j-1].Tag, e.Tag) {
				return false
			}
			if e.Tag.Count < 1 || e.Tag.Count > 1<<62-1 || e.Tag.Client < 1 || e.Tag.Client > 65535 {
				return false
			}
			if !e.Has && !e.Fin || !e.Has && len(e.Data) > 0 || len(e.Data) > 65540 {
				return false
			}
			if e.Fin {
				finals = append(finals, e.Tag)
			}
		}
		if uint64(len(finals)) > uint64(delta)+1 {
			return false
		}
		for _, e := range h.Entries {
			if uint64(len(finals)) == uint64(delta)+1 && less(e.Tag, finals[0]) {
				return false
			}
		}
	}
	return true
}

// refusal is the errors of all three calls.
func refusal(c api.Config, tables [][]api.Held) api.Errno {
	if c.K < 1 || c.K > c.N || c.N > 255 || c.Delta < 0 || c.Delta > 1<<62-1 {
		return api.ErrConfig
	}
	if len(tables) != c.N {
		return api.ErrShape
	}
	for _, table := range tables {
		if !allowed(table, c.Delta) {
			return api.ErrForm
		}
	}
	return api.OK
}

// entryOf is a server's entry of a tag of a key.
func entryOf(table []api.Held, key string, g api.Tag) (api.Entry, bool) {
	for _, h := range table {
		for _, e := range h.Entries {
			if h.Key == key && e.Tag == g {
				return e, true
			}
		}
	}
	return api.Entry{}, false
}

// tagsOf is all tags that some table has of a key, rising.
func tagsOf(tables [][]api.Held, key string) []api.Tag {
	var tags []api.Tag
	for _, table := range tables {
		for _, h := range table {
			for _, e := range h.Entries {
				if h.Key == key && !slices.Contains(tags, e.Tag) {
					tags = append(tags, e.Tag)
				}
			}
		}
	}
	slices.SortFunc(tags, byTag)
	return tags
}

func keysOf(tables [][]api.Held) []string {
	var keys []string
	for _, table := range tables {
		for _, h := range table {
			if !slices.Contains(keys, h.Key) {
				keys = append(keys, h.Key)
			}
		}
	}
	slices.SortFunc(keys, func(a, b string) int { return bytes.Compare([]byte(a), []byte(b)) })
	return keys
}

func partsOf(tables [][]api.Held, key string, g api.Tag) []api.Part {
	var parts []api.Part
	for server, table := range tables {
		if e, _ := entryOf(table, key, g); e.Has {
			parts = append(parts, api.Part{Index: server, Data: e.Data})
		}
	}
	return parts
}

// floorOf is the (Delta + 1)-th highest finalized tag of a key in a table, the initial one if it has fewer.
func floorOf(table []api.Held, key string, delta int) api.Tag {
	var finals []api.Tag
	for _, g := range tagsOf([][]api.Held{table}, key) {
		if e, _ := entryOf(table, key, g); e.Fin {
			finals = append(finals, g)
		}
	}
	if uint64(len(finals)) < uint64(delta)+1 {
		return api.Tag{}
	}
	return finals[len(finals)-(delta+1)]
}

func lookOf(c api.Config, tables [][]api.Held) ([]scrub.Finding, api.Errno) {
	if e := refusal(c, tables); e != api.OK {
		return nil, e
	}
	var all []scrub.Finding
	for _, key := range keysOf(tables) {
		for _, g := range tagsOf(tables, key) {
			f := scrub.Finding{Key: key, Tag: g}
			for server, table := range tables {
				e, _ := entryOf(table, key, g)
				if e.Has {
					f.Has = append(f.Has, server)
				}
				if e.Fin {
					f.Fin = append(f.Fin, server)
				}
			}
			if _, wrong, e := stripe.Mend(made(c), partsOf(tables, key, g)); e == api.OK {
				f.Whole, f.Wrong = true, wrong
			}
			all = append(all, f)
		}
	}
	return all, api.OK
}

func valueOf(c api.Config, tables [][]api.Held, key string, g api.Tag) ([]byte, api.Errno) {
	if e := refusal(c, tables); e != api.OK {
		return nil, e
	}
	if !slices.Contains(tagsOf(tables, key), g) {
		return nil, api.ErrNone
	}
	value, _, e := stripe.Mend(made(c), partsOf(tables, key, g))
	return value, e
}

func lacksOf(c api.Config, tables [][]api.Held, server int) ([]api.Update, api.Errno) {
	all, e := lookOf(c, tables)
	if e != api.OK {
		return nil, e
	}
	if server < 0 || server > c.N-1 {
		return nil, api.ErrNode
	}
	var us []api.Update
	for _, f := range all {
		if !f.Whole || slices.Contains(f.Has, server) || less(f.Tag, floorOf(tables[server], f.Key, c.Delta)) {
			continue
		}
		value, _ := valueOf(c, tables, f.Key, f.Tag)
		fragments, _ := stripe.Split(made(c), value)
		us = append(us, api.Update{Kind: api.UPre, Key: f.Key, Entry: api.Entry{Tag: f.Tag, Data: fragments[server]}})
	}
	return us, api.OK
}

func sameFinding(a, b scrub.Finding) bool {
	return a.Key == b.Key && a.Tag == b.Tag && slices.Equal(a.Has, b.Has) && slices.Equal(a.Fin, b.Fin) && a.Whole == b.Whole && slices.Equal(a.Wrong, b.Wrong)
}

func sameFindings(a, b []scrub.Finding) bool { return slices.EqualFunc(a, b, sameFinding) }

func sameUpdate(a, b api.Update) bool {
	return a.Kind == b.Kind && a.Key == b.Key && sameEntry(a.Entry, b.Entry)
}

func sameUpdates(a, b []api.Update) bool { return slices.EqualFunc(a, b, sameUpdate) }

func sameEntry(a, b api.Entry) bool {
	return a.Tag == b.Tag && a.Fin == b.Fin && a.Has == b.Has && bytes.Equal(a.Data, b.Data)
}

func sameTable(a, b []api.Held) bool {
	return slices.EqualFunc(a, b, func(x, y api.Held) bool {
		return x.Key == y.Key && slices.EqualFunc(x.Entries, y.Entries, sameEntry)
	})
}

// text is tables as lines, for what a test says; long fragments are cut short.
func text(tables [][]api.Held) string {
	var b strings.Builder
	for server, table := range tables {
		fmt.Fprintf(&b, "\nserver %d:", server)
		for _, h := range table {
			fmt.Fprintf(&b, " %q", h.Key)
			for _, e := range h.Entries {
				fmt.Fprintf(&b, " %d.%d", e.Tag.Count, e.Tag.Client)
				if e.Has {
					fmt.Fprintf(&b, "+%x(%d)", e.Data[:min(len(e.Data), 20)], len(e.Data))
				}
				if e.Fin {
					b.WriteString("!")
				}
			}
		}
	}
	return b.String()
}

// check asks all that can be asked of tables, of keys, tags and servers that are not there too, and holds it against the second telling.
func check(t *testing.T, c api.Config, tables [][]api.Held) []scrub.Finding {
	t.Helper()
	want, wantErr := lookOf(c, tables)
	all, e := scrub.Look(c, tables)
	if e != wantErr || !sameFindings(all, want) {
		t.Fatalf("P27.1: %+v: Look is %+v, %d, want %+v, %d:%s", c, all, int(e), want, int(wantErr), text(tables))
	}
	for _, key := range append(keysOf(tables), "", "none", "k") {
		for _, g := range append(tagsOf(tables, key), api.Tag{}, tg(1, 1), tg(-1, 0), tg(1<<62, 65536)) {
			checkValue(t, c, tables, key, g)
		}
	}
	for server := -2; server <= max(c.N, len(tables))+1; server++ {
		checkLacks(t, c, tables, server)
	}
	return all
}

func checkValue(t *testing.T, c api.Config, tables [][]api.Held, key string, g api.Tag) {
	t.Helper()
	want, wantErr := valueOf(c, tables, key, g)
	if got, e := scrub.Value(c, tables, key, g); e != wantErr || !bytes.Equal(got, want) {
		t.Fatalf("P27.2: %+v: Value of %q, %v is %q, %d, want %q, %d:%s", c, key, g, got, int(e), want, int(wantErr), text(tables))
	}
}

func checkLacks(t *testing.T, c api.Config, tables [][]api.Held, server int) {
	t.Helper()
	want, wantErr := lacksOf(c, tables, server)
	if got, e := scrub.Lacks(c, tables, server); e != wantErr || !sameUpdates(got, want) {
		t.Fatalf("P27.3: %+v: Lacks of %d is %v, %d, want %v, %d:%s", c, server, got, int(e), want, int(wantErr), text(tables))
	}
}
