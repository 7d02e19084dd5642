package flog_test

import (
	"bytes"
	"math"
	"math/rand/v2"
	"slices"
	"strings"
	"testing"

	"sherd/api"
	"sherd/disk"
	"sherd/flog"
)

func opened(t *testing.T, d *disk.Disk, want ...api.Update) *flog.Log {
	t.Helper()
	l, us, e := flog.Open(d, head)
	if e != api.OK || l == nil || !sameUpdates(us, want) {
		t.Fatalf("P14.1: Open answers %v, %d, want %v", us, e, want)
	}
	return l
}

func tells(t *testing.T, l *flog.Log, d *disk.Disk, acts, count, size, current int) {
	t.Helper()
	if d.Acts() != acts || l.Count() != count || l.Bytes() != size || d.Current() != current {
		t.Fatalf("P14.4: %d acts, Count %d, Bytes %d, slot %d, want %d, %d, %d, %d", d.Acts(), l.Count(), l.Bytes(), d.Current(), acts, count, size, current)
	}
}

func answers(t *testing.T, got, want api.Errno, what string) {
	t.Helper()
	if got != want {
		t.Fatalf("%s answers %d, want %d", what, got, want)
	}
}

// exampleTwo: a log of the first two examples.
func exampleTwo(t *testing.T) (*flog.Log, *disk.Disk) {
	t.Helper()
	d := disk.New()
	l := opened(t, d)
	tells(t, l, d, 4, 0, 9, 1)
	answers(t, l.Append(fins(1, 2)...), api.OK, "P14.2: Append(u, v)")
	tells(t, l, d, 6, 2, 31, 1)
	return l, d
}

func TestExampleOpenAgain(t *testing.T) {
	_, d := exampleTwo(t)
	again := opened(t, d, fins(1, 2)...)
	tells(t, again, d, 6, 2, 31, 1)
}

func TestExampleStoppedAppend(t *testing.T) {
	l, d := exampleTwo(t)
	d.Stop(2, false)
	answers(t, l.Append(fin(3)), api.ErrDead, "P14.2: Append(w)")
	if l.Count() != 2 || l.Bytes() != 31 {
		t.Fatalf("P14.4: Count %d, Bytes %d, want 2, 31", l.Count(), l.Bytes())
	}
	for kept := range 11 {
		found := d.Crash([]int{0, 0, kept})
		log := opened(t, found, fins(1, 2)...)
		if kept == 0 {
			tells(t, log, found, 0, 2, 31, 1)
			continue
		}
		tells(t, log, found, 4, 2, 31, 0)
		slots, _ := found.Slots()
		if !bytes.Equal(slots[0], slots[1][:31]) || len(slots[1]) != 31+kept {
			t.Fatalf("P14.1: the slots are %x: slot 0 is to be written anew, and slot 1 left as it was", slots)
		}
	}
	found := d.Crash([]int{0, 1})
	tells(t, opened(t, found, fins(1, 2, 3)...), found, 0, 3, 42, 1)
}

func TestExampleCompact(t *testing.T) {
	l, d := exampleTwo(t)
	answers(t, l.Compact(fins(3)), api.OK, "P14.3: Compact(w)")
	tells(t, l, d, 10, 1, 20, 0)
	l, d = exampleTwo(t)
	d.Stop(4, false)
	answers(t, l.Compact(fins(3)), api.ErrDead, "P14.3: Compact(w)")
	if l.Count() != 2 || l.Bytes() != 31 {
		t.Fatalf("P14.4: Count %d, Bytes %d, want 2, 31", l.Count(), l.Bytes())
	}
	opened(t, d.Crash(nil), fins(1, 2)...)
}

func TestExampleWrongUpdate(t *testing.T) {
	l, d := exampleTwo(t)
	answers(t, l.Append(fin(1), api.Update{Kind: 9}), api.ErrKind, "P14.2: Append(u, {Kind 9})")
	answers(t, l.Append(), api.OK, "P14.2: Append()")
	tells(t, l, d, 6, 2, 31, 1)
	opened(t, d, fins(1, 2)...)
}

func TestExampleHeads(t *testing.T) {
	_, d := exampleTwo(t)
	other := head
	other.Server = 2
	l, us, e := flog.Open(d, other)
	if l != nil || us != nil || e != api.ErrHead || d.Acts() != 6 {
		t.Fatalf("P14.1: Open with the Server 2 answers %v, %d", us, e)
	}
	torn, _ := disk.Load([2][]byte{{0}, {1, 2, 3}}, 0)
	tells(t, opened(t, torn), torn, 4, 0, 9, 1)
	if slots, _ := torn.Slots(); !bytes.Equal(slots[0], []byte{0}) || !bytes.Equal(slots[1], whole(head, nil)) {
		t.Fatalf("P14.1: the slots are %x", slots)
	}
}

// TestWhatOpenFinds: each beginning of a log in each slot, with each of some pieces behind it; the other slot has bytes of its own, among them another log.
func TestWhatOpenFinds(t *testing.T) {
	log := whole(head, []api.Update{fin(1), pre(2, "some data"), entry(3, true, true, "x"), fin(4)})
	others := [][]byte{nil, []byte("abc"), whole(head, fins(7)), whole(api.Head{Config: head.Config, Server: 2}, nil)}
	anew := 0
	for n := range len(log) + 1 {
		for i, behind := range [][]byte{nil, {0}, {0x52}, {0x48}, log[9:20], log} {
			for current := range 2 {
				slots := [2][]byte{}
				slots[current], slots[1-current] = slices.Concat(log[:n], behind), others[(n+i)%len(others)]
				d, other := twins(t, slots, current)
				b, e := openBoth(t, d, other, head, n, behind, current)
				answers(t, e, api.OK, "P14.1: Open of whatever tore")
				if d.Acts() == 4 {
					anew++
				}
				b.do(t, call{name: "Append", us: fins(8)}, n, behind, current)
				b = b.crash(t, nil, n, behind, current)
				b.do(t, call{name: "Compact", us: fins(9)}, n, behind, current)
			}
		}
	}
	if anew < 500 {
		t.Fatalf("%d were written anew: the test says little", anew)
	}
}

// TestOneByteIsAnother: in each place of a log.
func TestOneByteIsAnother(t *testing.T) {
	log := whole(head, []api.Update{fin(1), pre(2, "some"), fin(3)})
	for at := range log {
		for _, turned := range []byte{1, 0x80, 0xff} {
			spoilt := bytes.Clone(log)
			spoilt[at] ^= turned
			d, other := twins(t, [2][]byte{spoilt, nil}, 0)
			b, e := openBoth(t, d, other, head, at, turned)
			if e == api.OK {
				b.do(t, call{name: "Append", us: fins(4)}, at, turned)
			}
		}
	}
}

// TestHeads: each head on the log of each other, and those that may not be.
func TestHeads(t *testing.T) {
	var heads []api.Head
	for _, n := range []int{0, 1, 3, 255, 256} {
		for _, k := range []int{0, 1, 3} {
			for _, delta := range []int{-1, 0, 1, api.MaxDelta, math.MaxInt} {
				for _, server := range []int{-1, 0, 1, 2, 3, 254, 255} {
					heads = append(heads, api.Head{Config: api.Config{N: n, K: k, Delta: delta}, Server: server})
				}
			}
		}
	}
	right, wrong, refused := 0, 0, 0
	for _, h := range heads {
		if _, e := openBoth(t, disk.New(), disk.New(), h); e != api.OK {
			refused++
			continue
		}
		for _, g := range heads {
			d, other := disk.New(), disk.New()
			openBoth(t, d, other, h)
			switch _, e := openBoth(t, d, other, g, h, g); e {
			case api.OK:
				right++
			case api.ErrHead:
				wrong++
			}
		}
	}
	if right < 30 || wrong < 900 || refused < 400 {
		t.Fatalf("%d right, %d wrong, %d refused: the test says little", right, wrong, refused)
	}
}

// TestWhichErrorOfOpen: that of the nil disk, then of the head, then of the disk, then of the head that is found; what is behind stays undone.
func TestWhichErrorOfOpen(t *testing.T) {
	bad := api.Head{Config: api.Config{N: 3, K: 4}, Server: 9}
	noServer := api.Head{Config: head.Config, Server: 3}
	fresh := func(dead bool, slot []byte) *disk.Disk {
		d, _ := disk.Load([2][]byte{slot, []byte("other")}, 0)
		d.Stop(1, true)
		if dead {
			d.Crash(nil)
		}
		return d
	}
	foreign := whole(api.Head{Config: head.Config, Server: 2}, fins(1))
	for _, c := range []struct {
		what string
		d    *disk.Disk
		h    api.Head
		want api.Errno
	}{
		{"no disk, a head that may not be", nil, bad, api.ErrArg},
		{"no disk", nil, head, api.ErrArg},
		{"a dead disk, a config that may not be", fresh(true, nil), bad, api.ErrConfig},
		{"a dead disk, no such server", fresh(true, nil), noServer, api.ErrNode},
		{"a dead disk", fresh(true, foreign), head, api.ErrDead},
		{"another's log, a head that may not be", fresh(false, foreign), noServer, api.ErrNode},
		{"another's log", fresh(false, foreign), head, api.ErrHead},
		{"another's log with something behind it", fresh(false, append(bytes.Clone(foreign), 0)), head, api.ErrHead},
		{"an empty disk that stops", fresh(false, nil), head, api.ErrDead},
	} {
		acts := c.d.Acts()
		l, us, e := flog.Open(c.d, c.h)
		if l != nil || us != nil || e != c.want {
			t.Errorf("P14.1: %s: Open answers %v, %v, %d, want %d", c.what, l != nil, us, e, c.want)
		}
		if e != api.ErrDead && c.d.Acts() != acts {
			t.Errorf("P14.1: %s: Open did acts", c.what)
		}
	}
}

// TestOpenOfWhatIsLoose: a whole log that isn't synced is left as it is.
func TestOpenOfWhatIsLoose(t *testing.T) {
	for n := range 3 {
		d, other := disk.New(), disk.New()
		for _, one := range []*disk.Disk{d, other} {
			one.Append(0, whole(head, fins(1)))
			if n > 0 {
				one.Append(0, whole(head, fins(1, 2))[20:])
			}
			if n > 1 {
				one.Append(0, []byte{0x52})
			}
		}
		openBoth(t, d, other, head, n)
		if want := []int{1, 2, 3}[n]; d.Pending() != want {
			t.Errorf("P14.1: %d acts are loose, want %d", d.Pending(), want)
		}
	}
}

// TestWhichErrorOfAChange: the disk's of an earlier call is ahead of all; and with no updates an Append is OK, where a Compact writes.
func TestWhichErrorOfAChange(t *testing.T) {
	for _, first := range []string{"Append", "Compact"} {
		l, d := exampleTwo(t)
		d.Crash(nil)
		answers(t, l.Append(), api.OK, "P14.2: Append() on a disk that has answered no error")
		answers(t, l.Append(noKind), api.ErrKind, "P14.2: Append(no kind) on a disk that has answered no error")
		answers(t, l.Compact(fins(0)), api.ErrTag, "P14.3: Compact(no tag) on a disk that has answered no error")
		if first == "Append" {
			answers(t, l.Append(fin(3)), api.ErrDead, "P14.2: Append on a dead disk")
		} else {
			answers(t, l.Compact(nil), api.ErrDead, "P14.3: Compact on a dead disk")
		}
		answers(t, l.Append(), api.ErrDead, "P14.2: Append() behind the disk's error")
		answers(t, l.Append(noKind), api.ErrDead, "P14.2: Append(no kind) behind the disk's error")
		answers(t, l.Append(fin(3)), api.ErrDead, "P14.2: Append behind the disk's error")
		answers(t, l.Compact(nil), api.ErrDead, "P14.3: Compact() behind the disk's error")
		answers(t, l.Compact(fins(0)), api.ErrDead, "P14.3: Compact(no tag) behind the disk's error")
		if l.Count() != 2 || l.Bytes() != 31 {
			t.Fatalf("P14.4: Count %d, Bytes %d, want 2, 31", l.Count(), l.Bytes())
		}
	}
}

// TestUpdatesThatMayNotBe: in each place of a list, of an Append and of a Compact: nothing is done, and the log goes on as if nobody had asked.
func TestUpdatesThatMayNotBe(t *testing.T) {
	long := strings.Repeat("x", api.MaxValue+5)
	key := fin(1)
	key.Key = strings.Repeat("k", api.MaxKey+1)
	client := fin(1)
	client.Entry.Tag.Client = api.MaxClients + 1
	for _, c := range []struct {
		u    api.Update
		want api.Errno
	}{
		{noKind, api.ErrKind}, {api.Update{}, api.ErrKind}, {noKey, api.ErrKey}, {key, api.ErrKey}, {noTag, api.ErrTag}, {client, api.ErrTag},
		{neither, api.ErrForm}, {pre(1, long), api.ErrValue}, {entry(1, false, true, long), api.ErrValue},
	} {
		for place := range 4 {
			b := newPair(t)
			us := fins(1, 2, 3)
			us = append(slices.Insert(us, place, c.u), noTag, noKind)
			for range 2 {
				answers(t, b.do(t, call{name: "Append", us: us}), c.want, "P14.2: Append")
				answers(t, b.do(t, call{name: "Append", us: fins(5, 6)}), api.OK, "P14.2: Append")
				answers(t, b.do(t, call{name: "Compact", us: us}), c.want, "P14.3: Compact")
				answers(t, b.do(t, call{name: "Append", us: fins(7)}), api.OK, "P14.2: Append")
			}
			opened(t, b.disk, fins(5, 6, 7, 5, 6, 7)...)
			opened(t, b.disk.Crash(nil), fins(5, 6, 7, 5, 6, 7)...)
		}
	}
}

// TestGreatUpdates: just at the limits.
func TestGreatUpdates(t *testing.T) {
	b := newPair(t)
	most := strings.Repeat("m", api.MaxValue+4)
	u := entry(api.MaxCount, true, true, most)
	u.Key, u.Entry.Tag.Client = strings.Repeat("k", api.MaxKey), api.MaxClients
	unused := fin(2)
	unused.Entry.Data = []byte(most + "more")
	us := []api.Update{u, pre(1, most), unused}
	answers(t, b.do(t, call{name: "Append", us: us}), api.OK, "P14.2: Append")
	answers(t, b.do(t, call{name: "Compact", us: slices.Concat(us, us)}), api.OK, "P14.3: Compact")
	opened(t, b.disk.Crash(nil), u, pre(1, most), fin(2), u, pre(1, most), fin(2))
}

// TestLongLog: many updates, by one call and by many.
func TestLongLog(t *testing.T) {
	rnd := rand.New(rand.NewPCG(14, 3))
	var all []api.Update
	d := disk.New()
	l := opened(t, d)
	for len(all) < 3000 {
		us := anyUpdates(rnd, 200)
		if e := l.Append(us...); e == api.OK {
			all = append(all, ownForms(us)...)
		}
	}
	if l.Count() != len(all) || l.Bytes() != len(whole(head, all)) {
		t.Fatalf("P14.4: Count %d, Bytes %d", l.Count(), l.Bytes())
	}
	d = d.Crash(nil)
	l = opened(t, d, all...)
	answers(t, l.Compact(all[:1000]), api.OK, "P14.3: Compact")
	for _, u := range all[1000:] {
		answers(t, l.Append(u), api.OK, "P14.2: Append")
	}
	if l.Count() != len(all) || l.Bytes() != len(whole(head, all)) {
		t.Fatalf("P14.4: Count %d, Bytes %d", l.Count(), l.Bytes())
	}
	opened(t, d.Crash(nil), all...)
}

func TestNilLog(t *testing.T) {
	var l *flog.Log
	answers(t, l.Append(), api.OK, "P14.7: Append of a nil log")
	answers(t, l.Append(noKind), api.OK, "P14.7: Append of a nil log")
	answers(t, l.Compact(nil), api.OK, "P14.7: Compact of a nil log")
	answers(t, l.Compact(fins(0)), api.OK, "P14.7: Compact of a nil log")
	if l.Count() != 0 || l.Bytes() != 0 {
		t.Fatalf("P14.7: Count %d, Bytes %d of a nil log", l.Count(), l.Bytes())
	}
}
