package server_test

import (
	"bytes"
	"fmt"
	"slices"
	"strings"
	"testing"

	"sherd/api"
	"sherd/disk"
	"sherd/flog"
	"sherd/frame"
	"sherd/server"
)

// The chapter told a second time: a paper is a list of entries in no order, a log on a disk of its own, and the list of what was done. A server and its paper are alike if all that they tell is, and their disks are.

type line struct {
	key string
	api.Entry
}

type paper struct {
	head  api.Head
	disk  *disk.Disk
	log   *flog.Log
	lines []line
	done  []api.Update
	dead  api.Errno // what the disk once answered
}

func less(a, b api.Tag) bool {
	return a.Count < b.Count || a.Count == b.Count && a.Client < b.Client
}

// finals is a key's finalized tags, the highest first.
func finals(lines []line, key string) []api.Tag {
	var tags []api.Tag
	for _, l := range lines {
		if l.key == key && l.Fin {
			tags = append(tags, l.Tag)
		}
	}
	slices.SortFunc(tags, func(a, b api.Tag) int {
		if less(a, b) {
			return 1
		}
		return -1
	})
	return tags
}

func topOf(lines []line, key string) api.Tag {
	if tags := finals(lines, key); len(tags) > 0 {
		return tags[0]
	}
	return api.Tag{}
}

func floorOf(lines []line, key string, delta int) api.Tag {
	if tags := finals(lines, key); len(tags) > delta {
		return tags[delta]
	}
	return api.Tag{}
}

func find(lines []line, key string, g api.Tag) int {
	return slices.IndexFunc(lines, func(l line) bool { return l.key == key && l.Tag == g })
}

// changed is the entries behind an update, by DOC.md's words, and whether they are others.
func changed(lines []line, u api.Update, delta int) ([]line, bool) {
	lines = slices.Clone(lines)
	did := false
	if u.Kind == api.UPre || u.Kind == api.UEntry && u.Entry.Has {
		lines, did = withFragment(lines, u, delta)
	}
	if u.Kind == api.UFin || u.Kind == api.UEntry && u.Entry.Fin {
		var too bool
		lines, too = withFinal(lines, u, delta)
		did = did || too
	}
	return lines, did
}

func withFragment(lines []line, u api.Update, delta int) ([]line, bool) {
	if less(u.Entry.Tag, floorOf(lines, u.Key, delta)) {
		return lines, false
	}
	at := find(lines, u.Key, u.Entry.Tag)
	if at < 0 {
		return append(lines, line{u.Key, api.Entry{Tag: u.Entry.Tag, Has: true, Data: bytes.Clone(u.Entry.Data)}}), true
	}
	if lines[at].Has {
		return lines, false
	}
	lines[at].Has, lines[at].Data = true, bytes.Clone(u.Entry.Data)
	return lines, true
}

func withFinal(lines []line, u api.Update, delta int) ([]line, bool) {
	if less(u.Entry.Tag, floorOf(lines, u.Key, delta)) {
		return lines, false
	}
	at := find(lines, u.Key, u.Entry.Tag)
	if at >= 0 && lines[at].Fin {
		return lines, false
	}
	if at < 0 {
		at = len(lines)
		lines = append(lines, line{u.Key, api.Entry{Tag: u.Entry.Tag}})
	}
	lines[at].Fin = true
	floor := floorOf(lines, u.Key, delta)
	return slices.DeleteFunc(lines, func(l line) bool { return l.key == u.Key && less(l.Tag, floor) }), true
}

func held(lines []line) []api.Held {
	lines = slices.Clone(lines)
	slices.SortFunc(lines, func(a, b line) int {
		if c := strings.Compare(a.key, b.key); c != 0 {
			return c
		}
		if less(a.Tag, b.Tag) {
			return -1
		}
		return 1
	})
	var all []api.Held
	for _, l := range lines {
		if len(all) == 0 || all[len(all)-1].Key != l.key {
			all = append(all, api.Held{Key: l.key})
		}
		last := &all[len(all)-1]
		last.Entries = append(last.Entries, l.Entry)
	}
	return all
}

func asUpdates(lines []line) []api.Update {
	var us []api.Update
	for _, h := range held(lines) {
		for _, e := range h.Entries {
			us = append(us, api.Update{Kind: api.UEntry, Key: h.Key, Entry: e})
		}
	}
	return us
}

func openPaper(h api.Head, d *disk.Disk) (*paper, api.Errno) {
	log, us, e := flog.Open(d, h)
	if e != api.OK {
		return nil, e
	}
	p := &paper{head: h, disk: d, log: log}
	for _, u := range us {
		p.lines, _ = changed(p.lines, u, h.Config.Delta)
	}
	return p, api.OK
}

// brought is the update that a request brings; an Ask brings none.
func brought(m api.Message) (api.Update, bool) {
	u := api.Update{Key: m.Key, Entry: api.Entry{Tag: m.Tag}}
	switch m.Kind {
	case api.Pre:
		u.Kind, u.Entry.Data = api.UPre, bytes.Clone(m.Data)
	case api.Fin, api.Read:
		u.Kind = api.UFin
	default:
		return u, false
	}
	return u, true
}

func (p *paper) handle(m api.Message) ([]api.Message, api.Errno) {
	if e := frame.Check(m); e != api.OK {
		return nil, e
	}
	if m.Kind == api.Told || m.Kind == api.Kept || m.Kind == api.Done || m.Kind == api.Gave {
		return nil, api.ErrKind
	}
	if m.Server != p.head.Server {
		return nil, api.ErrNode
	}
	if p.dead != api.OK {
		return nil, p.dead
	}
	if e := p.bring(m); e != api.OK {
		return nil, e
	}
	return []api.Message{p.answer(m)}, api.OK
}

func (p *paper) bring(m api.Message) api.Errno {
	u, brings := brought(m)
	if !brings {
		return api.OK
	}
	lines, did := changed(p.lines, u, p.head.Config.Delta)
	if !did {
		return api.OK
	}
	if p.dead = p.log.Append(u); p.dead != api.OK {
		return p.dead
	}
	p.lines = lines
	p.done = append(p.done, u)
	if p.log.Count() > 2*len(p.lines)+16 {
		return p.compact()
	}
	return api.OK
}

func (p *paper) answer(m api.Message) api.Message {
	a := api.Message{Client: m.Client, Server: p.head.Server, Op: m.Op, Key: m.Key}
	switch m.Kind {
	case api.Ask:
		a.Kind, a.Top = api.Told, topOf(p.lines, m.Key)
	case api.Pre:
		a.Kind, a.Tag = api.Kept, m.Tag
	case api.Fin:
		a.Kind, a.Tag = api.Done, m.Tag
	case api.Read:
		a.Kind, a.Tag, a.Top = api.Gave, m.Tag, topOf(p.lines, m.Key)
		if at := find(p.lines, m.Key, m.Tag); at >= 0 && p.lines[at].Has {
			a.Has, a.Data = true, p.lines[at].Data
		}
	}
	return a
}

func (p *paper) compact() api.Errno {
	if p.dead == api.OK {
		p.dead = p.log.Compact(asUpdates(p.lines))
	}
	return p.dead
}

func sameEntry(a, b api.Entry) bool {
	return a.Tag == b.Tag && a.Fin == b.Fin && a.Has == b.Has && bytes.Equal(a.Data, b.Data)
}

func sameUpdates(a, b []api.Update) bool {
	return slices.EqualFunc(a, b, func(u, v api.Update) bool {
		return u.Kind == v.Kind && u.Key == v.Key && sameEntry(u.Entry, v.Entry)
	})
}

func sameAll(a, b []api.Held) bool {
	return slices.EqualFunc(a, b, func(x, y api.Held) bool {
		return x.Key == y.Key && slices.EqualFunc(x.Entries, y.Entries, sameEntry)
	})
}

func sameMessages(a, b []api.Message) bool {
	return slices.EqualFunc(a, b, func(m, n api.Message) bool {
		return m.Kind == n.Kind && m.Client == n.Client && m.Server == n.Server && m.Op == n.Op && m.Key == n.Key && m.Tag == n.Tag && m.Top == n.Top && m.Has == n.Has && bytes.Equal(m.Data, n.Data)
	})
}

func sameDisks(t *testing.T, got, want *disk.Disk, behind ...any) {
	t.Helper()
	if got.Acts() != want.Acts() || got.Pending() != want.Pending() || got.Dead() != want.Dead() {
		t.Fatalf("behind %v: Acts %d, Pending %d, Dead %v, want %d, %d, %v", behind, got.Acts(), got.Pending(), got.Dead(), want.Acts(), want.Pending(), want.Dead())
	}
	a, c := got.Slots()
	b, d := want.Slots()
	if c != d || !bytes.Equal(a[0], b[0]) || !bytes.Equal(a[1], b[1]) {
		t.Fatalf("behind %v: the slots are %x, %d, want %x, %d", behind, a, c, b, d)
	}
}

// pair is a server with its paper.
type pair struct {
	server *server.Server
	paper  *paper
	disk   *disk.Disk // the server's
}

// openBoth holds Open against the words, on two disks that are alike.
func openBoth(t *testing.T, h api.Head, d, other *disk.Disk, behind ...any) (pair, api.Errno) {
	t.Helper()
	s, e := server.Open(h, d)
	p, want := openPaper(h, other)
	if e != want || (s == nil) != (p == nil) {
		t.Fatalf("P16.1: behind %v: Open answers %d (and a server: %v), want %d", behind, e, s != nil, want)
	}
	sameDisks(t, d, other, behind, "Open")
	b := pair{server: s, paper: p, disk: d}
	if e == api.OK {
		b.check(t, behind, "Open")
	}
	return b, e
}

// newPair is a new server, on disks that nobody has written to.
func newPair(t *testing.T, delta int) pair {
	t.Helper()
	h := head
	h.Config.Delta = delta
	b, e := openBoth(t, h, disk.New(), disk.New(), "nothing")
	if e != api.OK {
		t.Fatalf("P16.1: Open on a new disk: %d", e)
	}
	return b
}

// check asks all that a server tells.
func (b pair) check(t *testing.T, behind ...any) {
	t.Helper()
	sameDisks(t, b.disk, b.paper.disk, behind...)
	want := held(b.paper.lines)
	if got := b.server.All(); !sameAll(got, want) {
		t.Fatalf("P16.4: behind %v: All is %v, want %v", behind, got, want)
	}
	for _, key := range append([]string{"", "none"}, keysOf(want)...) {
		if got, want := b.server.Top(key), topOf(b.paper.lines, key); got != want {
			t.Fatalf("P16.4: behind %v: Top(%q) is %v, want %v", behind, key, got, want)
		}
	}
	if got := b.server.Done(); !sameUpdates(got, b.paper.done) {
		t.Fatalf("P16.4: behind %v: Done is %v, want %v", behind, got, b.paper.done)
	}
	if n, size := b.server.Log(); n != b.paper.log.Count() || size != b.paper.log.Bytes() {
		t.Fatalf("P16.4: behind %v: Log is %d, %d, want %d, %d", behind, n, size, b.paper.log.Count(), b.paper.log.Bytes())
	}
	checkHolds(t, want, b.paper.head.Config.Delta, behind...)
}

func keysOf(all []api.Held) []string {
	var keys []string
	for _, h := range all {
		keys = append(keys, h.Key)
	}
	return keys
}

// checkHolds is P10 of the document.
func checkHolds(t *testing.T, all []api.Held, delta int, behind ...any) {
	t.Helper()
	for _, h := range all {
		fragments := 0
		for _, e := range h.Entries {
			if e.Fin && e.Has {
				fragments++
			}
		}
		if fragments > delta+1 {
			t.Fatalf("P10: behind %v: %d fragments of finalized tags of %q", behind, fragments, h.Key)
		}
	}
}

// call is one call of a script; what it doesn't use is zero.
type call struct {
	name string
	m    api.Message
	n    int
	done bool
}

func (c call) String() string {
	switch c.name {
	case "Handle":
		return fmt.Sprintf("Handle(%v)", c.m)
	case "Stop":
		return fmt.Sprintf("Stop(%d, %v)", c.n, c.done)
	}
	return c.name
}

func (b *pair) do(t *testing.T, c call, behind ...any) api.Errno {
	t.Helper()
	var got, want api.Errno
	switch c.name {
	case "Handle":
		got, want = b.handle(t, c.m, behind...)
	case "Compact":
		got, want = b.server.Compact(), b.paper.compact()
		if n, _ := b.server.Log(); got == api.OK && n != len(b.paper.lines) {
			t.Fatalf("P16.7: behind %v: Compact leaves %d updates of %d entries", behind, n, len(b.paper.lines))
		}
	case "Stop":
		got, want = b.disk.Stop(c.n, c.done), b.paper.disk.Stop(c.n, c.done)
	case "Open": // once more on the same disk: the server goes on as the one that is opened now
		next, e := openBoth(t, b.paper.head, b.disk, b.paper.disk, behind...)
		if e == api.OK {
			*b = next
		}
		return e
	default:
		t.Fatal(c.name)
	}
	if got != want {
		t.Fatalf("P16.2, P16.3: behind %v: %v answers %d, want %d", behind, c, got, want)
	}
	b.check(t, behind, c)
	return got
}

func (b *pair) handle(t *testing.T, m api.Message, behind ...any) (api.Errno, api.Errno) {
	t.Helper()
	before := len(b.paper.done)
	got, e := b.server.Handle(m)
	want, f := b.paper.handle(m)
	if !sameMessages(got, want) {
		t.Fatalf("P16.2: behind %v: Handle(%v) answers %v, want %v", behind, m, got, want)
	}
	n, _ := b.server.Log()
	if e == api.OK && len(b.paper.done) > before && n > 2*len(b.paper.lines)+16 {
		t.Fatalf("P16.7: behind %v: the log has %d updates, the table %d entries", behind, n, len(b.paper.lines))
	}
	return e, f
}

// crash is what both disks leave by the same choices, and the servers that are opened on it.
func (b pair) crash(t *testing.T, choices []int, behind ...any) pair {
	t.Helper()
	next, e := openBoth(t, b.paper.head, b.disk.Crash(choices), b.paper.disk.Crash(choices), behind, "Crash", choices)
	if e != api.OK {
		t.Fatalf("P16.5: behind %v: Open of what Crash(%v) leaves: %d", behind, choices, e)
	}
	return next
}

// head is that of the chapter's examples.
var head = api.Head{Config: api.Config{N: 3, K: 2}, Server: 1}

func tg(count int64, client int) api.Tag { return api.Tag{Count: count, Client: client} }

func message(kind int, key string, g api.Tag, data string) api.Message {
	return api.Message{Kind: kind, Client: 4, Server: 1, Op: 9, Key: key, Tag: g, Data: []byte(data)}
}

func ask(key string) api.Message { return message(api.Ask, key, api.Tag{}, "") }

func pre(key string, g api.Tag, data string) api.Message { return message(api.Pre, key, g, data) }

func fin(key string, g api.Tag) api.Message { return message(api.Fin, key, g, "") }

func read(key string, g api.Tag) api.Message { return message(api.Read, key, g, "") }

func handle(m api.Message) call { return call{name: "Handle", m: m} }
