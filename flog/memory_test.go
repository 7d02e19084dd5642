package flog_test

import (
	"bytes"
	"reflect"
	"slices"
	"sync"
	"testing"

	"sherd/api"
	"sherd/disk"
	"sherd/flog"
)

// roomy: updates whose list and whose data have spare room behind, which is filled.
func roomy(us []api.Update) []api.Update {
	all := append(slices.Clone(us), pre(99, "spare"), fin(98))
	for i := range all {
		data := append(bytes.Clone(all[i].Entry.Data), bytes.Repeat([]byte{0xee}, 16)...)
		all[i].Entry.Data = data[:len(all[i].Entry.Data)]
	}
	return all[:len(us)]
}

// deep: a copy of a list and of all behind it, the spare room too.
func deep(us []api.Update) []api.Update {
	all := slices.Clone(us[:cap(us)])
	for i := range all {
		all[i].Entry.Data = bytes.Clone(all[i].Entry.Data[:cap(all[i].Entry.Data)])
	}
	return all
}

// overwrite writes all over a list, its data and the spare room of both.
func overwrite(us []api.Update) {
	for i := range us[:cap(us)] {
		data := us[:cap(us)][i].Entry.Data
		for j := range data[:cap(data)] {
			data[:cap(data)][j] = 0xaa
		}
		us[:cap(us)][i] = noKind
	}
}

func TestUpdatesAreNotChangedAndNotKept(t *testing.T) {
	us := []api.Update{pre(1, "some data"), entry(2, true, true, "more"), fin(3), entry(4, true, false, "not used")}
	for _, bad := range [][]api.Update{nil, {noTag}} {
		b := newPair(t)
		for _, name := range []string{"Append", "Compact", "Append"} {
			given := roomy(slices.Concat(us, bad))
			before := deep(given)
			b.do(t, call{name: name, us: given})
			if !reflect.DeepEqual(deep(given), before) {
				t.Fatalf("P14.7: %s changed what it was given", name)
			}
			overwrite(given)
			b.check(t, "an overwriting of what was given")
			openBoth(t, b.disk, b.other, head, "an overwriting of what was given")
			b.do(t, call{name: "Append", us: fins(5)})
		}
		b.crash(t, nil)
	}
}

// TestWhatOpenAnswersIsNewMemory: in each way in which Open ends.
func TestWhatOpenAnswersIsNewMemory(t *testing.T) {
	us := []api.Update{pre(1, "some data"), entry(2, true, true, "more"), fin(3), pre(4, "some data")}
	for _, behind := range []string{"", "torn"} {
		d, other := twins(t, [2][]byte{append(whole(head, us), behind...), nil}, 0)
		l, first, e := flog.Open(d, head)
		answers(t, e, api.OK, "P14.1: Open")
		_, second, e := flog.Open(d, head)
		answers(t, e, api.OK, "P14.1: Open")
		for i := range first {
			for j := range first[i].Entry.Data {
				first[i].Entry.Data[j] = 0xaa
			}
			first[i].Entry.Data = append(first[i].Entry.Data, bytes.Repeat([]byte{0xbb}, 20)...)
			for j := i + 1; j < len(first); j++ {
				if !sameUpdates(first[j:j+1], us[j:j+1]) {
					t.Fatalf("P14.7: two answers share memory: %v", first)
				}
			}
		}
		overwrite(append(first, fin(7)))
		overwrite(first)
		if !sameUpdates(second, us) {
			t.Fatalf("P14.7: the answers of two calls share memory: %v", second)
		}
		overwrite(second)
		both, _ := openPaper(other, head)
		b := pair{log: l, paper: both, disk: d, other: other}
		b.check(t, "an overwriting of what was told")
		b.do(t, call{name: "Append", us: fins(5)})
		b.crash(t, nil, "an overwriting of what was told")
	}
}

// TestTheDiskIsKept: a log's acts are acts of the disk that was given, and what becomes of that disk the log meets.
func TestTheDiskIsKept(t *testing.T) {
	d := disk.New()
	l := opened(t, d)
	l.Append(fin(1))
	if d.Acts() != 6 {
		t.Fatalf("P14.1: %d acts, want 6", d.Acts())
	}
	d.Stop(1, false)
	answers(t, l.Append(fin(2)), api.ErrDead, "P14.2: Append on a disk that the caller has stop")
	if !d.Dead() {
		t.Fatal("P14.1: the disk that was given is not the log's")
	}
}

// TestTwoLogsOnOneDisk: one that is opened without a write changes nothing of the other.
func TestTwoLogsOnOneDisk(t *testing.T) {
	b := newPair(t)
	b.do(t, call{name: "Append", us: fins(1)})
	opened(t, b.disk, fin(1))
	b.do(t, call{name: "Append", us: fins(2)})
	opened(t, b.disk, fins(1, 2)...)
	b.do(t, call{name: "Compact", us: fins(3)})
	opened(t, b.disk, fin(3))
	b.do(t, call{name: "Append", us: fins(4)})
	b.crash(t, nil)
}

func TestGoroutinesBesideEachOther(t *testing.T) {
	var all sync.WaitGroup
	for i := range 8 {
		all.Go(func() {
			d := disk.New()
			for j := range 30 {
				l, us, e := flog.Open(d, head)
				if e != api.OK || len(us) != l.Count() {
					t.Errorf("P14.1: Open answers %d", e)
					return
				}
				l.Append(pre(int64(j+1), "data"), fin(int64(j+1)))
				if j%4 == i%4 {
					l.Compact(fins(int64(j + 1)))
				}
				d = d.Crash([]int{i, j})
			}
		})
	}
	all.Wait()
}
