package flog_test

import (
	"fmt"
	"slices"
	"testing"

	"sherd/api"
	"sherd/disk"
	"sherd/flog"
)

// made is a log that was opened on a disk on which nothing is loose, and the updates that it has.
type made struct {
	name string
	make func(t *testing.T) (*flog.Log, *disk.Disk)
	has  []api.Update
}

func logs() []made {
	return []made{
		{"a new one", func(t *testing.T) (*flog.Log, *disk.Disk) {
			d := disk.New()
			return opened(t, d), d
		}, nil},
		{"one that grew", func(t *testing.T) (*flog.Log, *disk.Disk) {
			return exampleTwo(t)
		}, fins(1, 2)},
		{"one that was made small", func(t *testing.T) (*flog.Log, *disk.Disk) {
			l, d := exampleTwo(t)
			l.Compact([]api.Update{entry(7, true, true, "x")})
			l.Append(fin(8))
			return l, d
		}, []api.Update{entry(7, true, true, "x"), fin(8)}},
		{"one that was found", func(t *testing.T) (*flog.Log, *disk.Disk) {
			_, d := exampleTwo(t)
			found := d.Crash(nil)
			return opened(t, found, fins(1, 2)...), found
		}, fins(1, 2)},
		{"one that was found torn", func(t *testing.T) (*flog.Log, *disk.Disk) {
			d, _ := disk.Load([2][]byte{append(whole(head, fins(1)), 0x52, 5), whole(head, fins(6, 7, 8))}, 0)
			return opened(t, d, fin(1)), d
		}, fins(1)},
		{"one beside another's", func(t *testing.T) (*flog.Log, *disk.Disk) {
			d, _ := disk.Load([2][]byte{whole(api.Head{Config: head.Config, Server: 2}, fins(9)), whole(head, fins(1))}, 1)
			return opened(t, d, fin(1)), d
		}, fins(1)},
	}
}

// change is a call, and what may be found if it does not answer.
type change struct {
	name string
	do   func(l *flog.Log) api.Errno
	acts int
	us   []api.Update
}

func changes() []change {
	var all []change
	for _, us := range [][]api.Update{{fin(3)}, {pre(3, "data"), fin(3), entry(4, false, true, "")}} {
		all = append(all, change{"Append", func(l *flog.Log) api.Errno { return l.Append(us...) }, 2, us})
	}
	for _, us := range [][]api.Update{nil, {fin(2)}, {pre(3, "data"), fin(3)}} {
		all = append(all, change{"Compact", func(l *flog.Log) api.Errno { return l.Compact(us) }, 4, us})
	}
	return all
}

// mayBeFound is all that the chapter lets be found where the change did not answer.
func mayBeFound(has []api.Update, c change) [][]api.Update {
	if c.name == "Compact" {
		return [][]api.Update{has, c.us}
	}
	var all [][]api.Update
	for n := range len(c.us) + 1 {
		all = append(all, slices.Concat(has, c.us[:n]))
	}
	return all
}

// eachCrash: by all choices that can make a difference, where each slot has at most two loose acts of at most most bytes.
func eachCrash(most int, f func(choices []int)) {
	for _, whole := range []int{0, 1, 2} {
		for kept := range most {
			f([]int{whole, kept})        // slot 0 takes both, if it has loose acts
			f([]int{0, whole, kept})     // slot 0 has none
			f([]int{whole, kept, whole}) // both have
		}
	}
}

// TestWhatLasts: of each log behind each change that is stopped ahead of or behind each of its acts, or answers.
func TestWhatLasts(t *testing.T) {
	met := map[string]bool{}
	for _, m := range logs() {
		for _, c := range changes() {
			for n := range c.acts + 1 {
				for _, done := range []bool{false, true} {
					checkWhatLasts(t, m, c, n, done, met)
				}
			}
		}
	}
	for _, m := range logs() {
		for _, c := range changes() {
			for i := range mayBeFound(m.has, c) {
				if !met[fmt.Sprint(m.name, c.name, len(c.us), i)] {
					t.Errorf("behind %s of %s nothing found the stand %d: the test says little", c.name, m.name, i)
				}
			}
		}
	}
}

func checkWhatLasts(t *testing.T, m made, c change, stop int, done bool, met map[string]bool) {
	t.Helper()
	l, d := m.make(t)
	count, size := l.Count(), l.Bytes()
	if count != len(m.has) || size != len(whole(head, m.has)) || d.Pending() != 0 {
		t.Fatalf("%s is not what the test takes it for", m.name)
	}
	d.Stop(stop, done)
	e := c.do(l)
	may := mayBeFound(m.has, c)
	if stop == 0 {
		answers(t, e, api.OK, c.name)
		may = may[len(may)-1:]
	} else {
		answers(t, e, api.ErrDead, "P14.2, P14.3: a stopped "+c.name)
		if l.Count() != count || l.Bytes() != size {
			t.Fatalf("P14.4: %s: Count %d, Bytes %d, want %d, %d", c.name, l.Count(), l.Bytes(), count, size)
		}
	}
	eachCrash(80, func(choices []int) {
		_, us, e := flog.Open(d.Crash(choices), head)
		if e != api.OK || !slices.ContainsFunc(may, func(has []api.Update) bool { return sameUpdates(us, has) }) {
			t.Fatalf("P14.5: %s, %s, stopped at act %d (%v), Crash(%v): Open answers %v, %d, want one of %v", m.name, c.name, stop, done, choices, us, e, may)
		}
		for i, has := range may {
			if stop > 0 && sameUpdates(us, has) {
				met[fmt.Sprint(m.name, c.name, len(c.us), i)] = true
			}
		}
	})
}

// TestSureActs: what lasts where a change is stopped behind its last act, or ahead of its first.
func TestSureActs(t *testing.T) {
	for _, m := range logs() {
		for _, c := range changes() {
			for _, done := range []bool{false, true} {
				l, d := m.make(t)
				stop, want := 1, m.has
				if done {
					stop, want = c.acts, mayBeFound(m.has, c)[len(mayBeFound(m.has, c))-1]
				}
				d.Stop(stop, done)
				c.do(l)
				eachCrash(20, func(choices []int) { opened(t, d.Crash(choices), want...) })
			}
		}
	}
}

// TestCompactLastsByItsSwitch: until then the old log is found, whatever the choices.
func TestCompactLastsByItsSwitch(t *testing.T) {
	for stop := 1; stop <= 4; stop++ {
		for _, done := range []bool{false, true} {
			l, d := exampleTwo(t)
			d.Stop(stop, done)
			l.Compact(fins(3))
			want := fins(1, 2)
			if stop == 4 && done {
				want = fins(3)
			}
			eachCrash(25, func(choices []int) { opened(t, d.Crash(choices), want...) })
		}
	}
}

// torn: disks of which Open writes the other slot anew, and what stands on each.
func torn() map[string][]api.Update {
	log := whole(head, []api.Update{fin(1), pre(2, "ab")})
	all := map[string][]api.Update{"": nil, "\x00": nil, string(log[:8]): nil}
	for n := 10; n < len(log); n++ {
		if n != 20 {
			all[string(log[:n])] = fins(1)[:min((n-9)/11, 1)]
		}
	}
	all[string(log)+"\x00"] = []api.Update{fin(1), pre(2, "ab")}
	all[string(log)+string(log)] = []api.Update{fin(1), pre(2, "ab")}
	return all
}

// TestStoppedOpen: three openings in a row, of which two are stopped at any act; with any choices the third answers what stood.
func TestStoppedOpen(t *testing.T) {
	for text, want := range torn() {
		for _, beside := range []string{"", "xyz", string(whole(head, fins(4, 5))), string(whole(head, nil))} {
			for stop := 1; stop <= 8; stop++ {
				d, _ := disk.Load([2][]byte{[]byte(beside), []byte(text)}, 1)
				stopOpen(t, d, (stop+1)/2, stop%2 == 0)
				for c := range 30 {
					choices := []int{c % 3, c * 7, c % 2, c}
					opened(t, d.Crash(choices), want...)
					found := d.Crash(choices)
					if found.Stop(1+c%4, c%8 < 4); c%5 > 0 {
						flog.Open(found, head)
					}
					opened(t, found.Crash([]int{c % 4, c, c}), want...)
				}
			}
		}
	}
}

func stopOpen(t *testing.T, d *disk.Disk, n int, done bool) {
	t.Helper()
	d.Stop(n, done)
	l, us, e := flog.Open(d, head)
	if l != nil || us != nil || e != api.ErrDead || !d.Dead() {
		t.Fatalf("P14.1: an Open that is stopped at act %d answers %v, %v, %d", n, l != nil, us, e)
	}
	acts := n - 1
	if done {
		acts = n
	}
	if d.Acts() != acts {
		t.Fatalf("P14.1: an Open that is stopped at act %d (%v) did %d acts", n, done, d.Acts())
	}
}

// TestCrashBetweenCalls: with no act under way all that was answered is found.
func TestCrashBetweenCalls(t *testing.T) {
	for _, m := range logs() {
		_, d := m.make(t)
		eachCrash(20, func(choices []int) { opened(t, d.Crash(choices), m.has...) })
		l, d := m.make(t)
		l.Append(fin(1), noTag)
		l.Append()
		l.Compact([]api.Update{noKey})
		eachCrash(20, func(choices []int) { opened(t, d.Crash(choices), m.has...) })
	}
}
