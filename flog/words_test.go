package flog_test

import (
	"bytes"
	"fmt"
	"math/rand/v2"
	"slices"
	"testing"

	"sherd/api"
	"sherd/disk"
	"sherd/flog"
	"sherd/record"
)

// The chapter told a second time: a paper log is a list of updates, and a disk of its own on which the test does the acts that the chapter names, one by one. Its bytes are made from the front each time. A log and its paper are alike if their disks are: as they are now, and behind crashes.

type paper struct {
	disk *disk.Disk
	head api.Head
	has  []api.Update
	slot int
	dead api.Errno // what the disk once answered to an Append or Compact
}

// whole is a log's bytes.
func whole(h api.Head, us []api.Update) []byte {
	w, data, e := record.New(h)
	if e != api.OK {
		panic(e)
	}
	for _, u := range us {
		b, e := w.Put(u)
		if e != api.OK {
			panic(e)
		}
		data = append(data, b...)
	}
	return data
}

// wrong is record's error for the first update that may not be.
func wrong(us []api.Update) api.Errno {
	for _, u := range us {
		w, _, _ := record.New(api.Head{Config: api.Config{N: 1, K: 1}})
		if _, e := w.Put(u); e != api.OK {
			return e
		}
	}
	return api.OK
}

// ownForm has what the kind doesn't use zero.
func ownForm(u api.Update) api.Update {
	own := api.Update{Kind: u.Kind, Key: u.Key, Entry: api.Entry{Tag: u.Entry.Tag}}
	switch {
	case u.Kind == api.UPre:
		own.Entry.Data = bytes.Clone(u.Entry.Data)
	case u.Kind == api.UEntry:
		own.Entry.Fin, own.Entry.Has = u.Entry.Fin, u.Entry.Has
		if u.Entry.Has {
			own.Entry.Data = bytes.Clone(u.Entry.Data)
		}
	}
	return own
}

func ownForms(us []api.Update) []api.Update {
	var own []api.Update
	for _, u := range us {
		own = append(own, ownForm(u))
	}
	return own
}

func firstError(acts ...func() api.Errno) api.Errno {
	for _, act := range acts {
		if e := act(); e != api.OK {
			return e
		}
	}
	return api.OK
}

func (p *paper) anew(us []api.Update) api.Errno {
	other := 1 - p.slot
	e := firstError(
		func() api.Errno { return p.disk.Wipe(other) },
		func() api.Errno { return p.disk.Append(other, whole(p.head, us)) },
		func() api.Errno { return p.disk.Sync(other) },
		func() api.Errno { return p.disk.Switch(other) },
	)
	if e == api.OK {
		p.slot, p.has = other, ownForms(us)
	}
	return e
}

// openPaper: nothing of it is to be seen beside an error.
func openPaper(d *disk.Disk, h api.Head) (*paper, api.Errno) {
	if d == nil {
		return nil, api.ErrArg
	}
	if _, _, e := record.New(h); e != api.OK {
		return nil, e
	}
	p := &paper{disk: d, head: h, slot: d.Current()}
	data, e := d.Read(p.slot)
	if e != api.OK {
		return nil, e
	}
	found, us, _, why, _, e := record.Scan(data)
	if e == api.OK && found != h {
		return nil, api.ErrHead
	}
	if e == api.OK && why == api.OK {
		p.has = us
		return p, api.OK
	}
	if e := p.anew(us); e != api.OK {
		return nil, e
	}
	return p, api.OK
}

func (p *paper) append(us []api.Update) api.Errno {
	if p.dead != api.OK {
		return p.dead
	}
	if len(us) == 0 {
		return api.OK
	}
	if e := wrong(us); e != api.OK {
		return e
	}
	all := slices.Concat(p.has, us)
	data := whole(p.head, all)[len(whole(p.head, p.has)):]
	p.dead = firstError(
		func() api.Errno { return p.disk.Append(p.slot, data) },
		func() api.Errno { return p.disk.Sync(p.slot) },
	)
	if p.dead == api.OK {
		p.has = ownForms(all)
	}
	return p.dead
}

func (p *paper) compact(us []api.Update) api.Errno {
	if p.dead != api.OK {
		return p.dead
	}
	if e := wrong(us); e != api.OK {
		return e
	}
	p.dead = p.anew(us)
	return p.dead
}

func sameUpdates(a, b []api.Update) bool {
	return slices.EqualFunc(a, b, func(u, v api.Update) bool {
		return u.Kind == v.Kind && u.Key == v.Key && u.Entry.Tag == v.Entry.Tag && u.Entry.Fin == v.Entry.Fin && u.Entry.Has == v.Entry.Has && bytes.Equal(u.Entry.Data, v.Entry.Data)
	})
}

// sameDisks: alike as they are now, as far as a disk tells it.
func sameDisks(t *testing.T, got, want *disk.Disk, behind ...any) {
	t.Helper()
	if got.Acts() != want.Acts() || got.Pending() != want.Pending() || got.Dead() != want.Dead() {
		t.Fatalf("behind %v: Acts %d, Pending %d, Dead %v, want %d, %d, %v", behind, got.Acts(), got.Pending(), got.Dead(), want.Acts(), want.Pending(), want.Dead())
	}
	a, c := got.Slots()
	b, d := want.Slots()
	if c != d || !bytes.Equal(a[0], b[0]) || !bytes.Equal(a[1], b[1]) {
		t.Fatalf("behind %v: the slots are %x, %d, want %x, %d", behind, a, c, b, d)
	}
}

// pair is a log (nil where none was opened) with its paper.
type pair struct {
	log   *flog.Log
	paper *paper
	disk  *disk.Disk
	other *disk.Disk // the paper's
}

// twins: two disks with the same bytes.
func twins(t *testing.T, slots [2][]byte, current int) (*disk.Disk, *disk.Disk) {
	t.Helper()
	a, e := disk.Load(slots, current)
	b, f := disk.Load(slots, current)
	if e != api.OK || f != api.OK {
		t.Fatal(e, f)
	}
	return a, b
}

// openBoth holds Open against the words.
func openBoth(t *testing.T, d, other *disk.Disk, h api.Head, behind ...any) (pair, api.Errno) {
	t.Helper()
	l, us, e := flog.Open(d, h)
	p, want := openPaper(other, h)
	if e != want || (l == nil) != (p == nil) {
		t.Fatalf("P14.1: behind %v: Open answers %d (and a log: %v), want %d", behind, e, l != nil, want)
	}
	sameDisks(t, d, other, behind, "Open")
	both := pair{log: l, paper: p, disk: d, other: other}
	if e != api.OK {
		if us != nil {
			t.Fatalf("P3: behind %v: Open answers %v beside %d", behind, us, e)
		}
		return both, e
	}
	if !sameUpdates(us, p.has) {
		t.Fatalf("P14.1: behind %v: Open answers %v, want %v", behind, us, p.has)
	}
	both.check(t, behind, "Open")
	return both, e
}

func (b pair) check(t *testing.T, behind ...any) {
	t.Helper()
	sameDisks(t, b.disk, b.other, behind)
	if size := len(whole(b.paper.head, b.paper.has)); b.log.Count() != len(b.paper.has) || b.log.Bytes() != size {
		t.Fatalf("P14.4: behind %v: Count %d, Bytes %d, want %d, %d", behind, b.log.Count(), b.log.Bytes(), len(b.paper.has), size)
	}
}

// call is one call of a script; what it doesn't use is zero.
type call struct {
	name string
	us   []api.Update
	n    int
	done bool
}

func (c call) String() string {
	switch c.name {
	case "Stop":
		return fmt.Sprintf("Stop(%d, %v)", c.n, c.done)
	case "Open":
		return "Open"
	}
	return fmt.Sprintf("%s(%v)", c.name, c.us)
}

func (b *pair) do(t *testing.T, c call, behind ...any) api.Errno {
	t.Helper()
	var got, want api.Errno
	switch c.name {
	case "Append":
		got, want = b.log.Append(c.us...), b.paper.append(c.us)
	case "Compact":
		got, want = b.log.Compact(c.us), b.paper.compact(c.us)
	case "Stop":
		got, want = b.disk.Stop(c.n, c.done), b.other.Stop(c.n, c.done)
	case "Open": // once more on the same disk: the log goes on as the one that is opened now
		next, e := openBoth(t, b.disk, b.other, b.paper.head, behind...)
		if e == api.OK {
			*b = next
		}
		return e
	default:
		t.Fatal(c.name)
	}
	if got != want {
		t.Fatalf("P14.2, P14.3: behind %v: %v answers %d, want %d", behind, c, got, want)
	}
	b.check(t, behind, c)
	return got
}

// crash is what both disks leave by the same choices, and the logs that are opened on it.
func (b pair) crash(t *testing.T, choices []int, behind ...any) pair {
	t.Helper()
	next, e := openBoth(t, b.disk.Crash(choices), b.other.Crash(choices), b.paper.head, behind, "Crash", choices)
	if e != api.OK {
		t.Fatalf("P14.5: behind %v: Open of what Crash(%v) leaves: %d", behind, choices, e)
	}
	return next
}

var head = api.Head{Config: api.Config{N: 3, K: 1}, Server: 1}

func fin(count int64) api.Update {
	return api.Update{Kind: api.UFin, Key: "k", Entry: api.Entry{Tag: api.Tag{Count: count, Client: 1}}}
}

func fins(counts ...int64) []api.Update {
	var us []api.Update
	for _, c := range counts {
		us = append(us, fin(c))
	}
	return us
}

func pre(count int64, data string) api.Update {
	u := fin(count)
	u.Kind, u.Entry.Data = api.UPre, []byte(data)
	return u
}

func entry(count int64, fin, has bool, data string) api.Update {
	return api.Update{Kind: api.UEntry, Key: "key", Entry: api.Entry{Tag: api.Tag{Count: count, Client: 2}, Fin: fin, Has: has, Data: []byte(data)}}
}

var (
	noKind  = api.Update{Kind: 9}
	noTag   = fin(0)
	noKey   = api.Update{Kind: api.UFin, Entry: api.Entry{Tag: api.Tag{Count: 1, Client: 1}}}
	neither = entry(1, false, false, "x")
)

// calls: each kind of call, with no updates, one and several, and with some that may not be in each place.
func calls() []call {
	lists := [][]api.Update{
		nil, {fin(1)}, {pre(2, "ab"), entry(3, true, false, "let go")}, {noKind}, {fin(4), noTag}, {pre(5, ""), noKey, noKind},
	}
	all := []call{{name: "Open"}}
	for _, us := range lists {
		all = append(all, call{name: "Append", us: us}, call{name: "Compact", us: us})
	}
	for n := range 5 {
		all = append(all, call{name: "Stop", n: n}, call{name: "Stop", n: n, done: true})
	}
	return all
}

// eachScript: all scripts of that many calls.
func eachScript(size int, f func(script []call)) {
	all := calls()
	script := make([]call, size)
	var from func(i int)
	from = func(i int) {
		if i == size {
			f(script)
			return
		}
		for _, c := range all {
			script[i] = c
			from(i + 1)
		}
	}
	from(0)
}

func newPair(t *testing.T) pair {
	t.Helper()
	b, e := openBoth(t, disk.New(), disk.New(), head)
	if e != api.OK {
		t.Fatalf("P14.1: Open on a new disk: %d", e)
	}
	return b
}

func TestAllShortScripts(t *testing.T) {
	rnd := rand.New(rand.NewPCG(14, 1))
	dead := 0
	for size := range 5 {
		eachScript(size, func(script []call) {
			b := newPair(t)
			for i, c := range script {
				b.do(t, c, script[:i])
			}
			if b.disk.Dead() {
				dead++
			}
			b.crash(t, []int{rnd.IntN(4), rnd.IntN(40), rnd.IntN(4), rnd.IntN(40)}, script)
		})
	}
	if dead < 10000 {
		t.Fatalf("%d scripts stop the machine: the test says little", dead)
	}
}

func anyBytes(rnd *rand.Rand, most int) []byte {
	b := make([]byte, rnd.IntN(most+1))
	for i := range b {
		b[i] = byte(rnd.Uint32())
	}
	return b
}

// anyUpdate: one that may be, with something in what its kind does not use, too.
func anyUpdate(rnd *rand.Rand) api.Update {
	most := 40
	if rnd.IntN(40) == 0 {
		most = 3000
	}
	u := api.Update{Kind: 1 + rnd.IntN(3), Key: "k" + string(anyBytes(rnd, 5))}
	u.Entry = api.Entry{Tag: api.Tag{Count: 1 + rnd.Int64N(api.MaxCount), Client: 1 + rnd.IntN(api.MaxClients)}, Fin: rnd.IntN(2) == 0, Data: anyBytes(rnd, most)}
	u.Entry.Has = !u.Entry.Fin || rnd.IntN(2) == 0
	return u
}

func anyUpdates(rnd *rand.Rand, most int) []api.Update {
	us := make([]api.Update, rnd.IntN(most+1))
	for i := range us {
		us[i] = anyUpdate(rnd)
	}
	if len(us) > 0 && rnd.IntN(8) == 0 {
		us[rnd.IntN(len(us))] = []api.Update{noKind, noTag, noKey, neither}[rnd.IntN(4)]
	}
	return us
}

func anyChoices(rnd *rand.Rand) []int {
	list := make([]int, rnd.IntN(6))
	for i := range list {
		list[i] = rnd.IntN(400) - 200
	}
	return list
}

func anyCall(rnd *rand.Rand) call {
	switch n := rnd.IntN(20); {
	case n < 12:
		return call{name: "Append", us: anyUpdates(rnd, 3)}
	case n < 16:
		return call{name: "Compact", us: anyUpdates(rnd, 8)}
	case n < 17:
		return call{name: "Open"}
	}
	return call{name: "Stop", n: rnd.IntN(12), done: rnd.IntN(2) == 0}
}

// TestLongScripts: several logs beside each other, whose machines stop now and then; each goes on as one that is opened on what a crash leaves, once in a while by an opening that is stopped itself.
func TestLongScripts(t *testing.T) {
	rnd := rand.New(rand.NewPCG(14, 2))
	torn := 0
	for range 90 {
		pairs := []pair{newPair(t), newPair(t), newPair(t)}
		for step := range 400 {
			b := &pairs[rnd.IntN(len(pairs))]
			if rnd.IntN(30) == 0 || b.disk.Dead() && rnd.IntN(3) == 0 {
				if *b = b.crash(t, anyChoices(rnd), step); b.disk.Acts() > 0 {
					torn++
				}
				continue
			}
			b.do(t, anyCall(rnd), step)
			for _, other := range pairs {
				other.check(t, "P5: a call of another log")
			}
		}
	}
	if torn < 100 {
		t.Fatalf("%d openings write anew: the test says little", torn)
	}
}
