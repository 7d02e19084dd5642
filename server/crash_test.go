package server_test

import (
	"math/rand/v2"
	"testing"

	"sherd/api"
	"sherd/disk"
	"sherd/server"
)

// life is what happens to a server from its Open to its machine's stop.
type life struct {
	head     api.Head
	from     []line       // the table at Open
	updates  []api.Update // those done, and the one that was under way
	answered int          // how many of them were done when the last answer was given
	small    int          // how many requests made the log small
}

// live has requests handled, one behind the other, until the machine stops; a message of no kind stands for a Compact.
func (l *life) live(t *testing.T, s *server.Server, d *disk.Disk, requests []api.Message) {
	t.Helper()
	for _, m := range requests {
		if m.Kind == 0 {
			if s.Compact() != api.OK {
				return
			}
			continue
		}
		before, slot := s.Done(), d.Current()
		_, e := s.Handle(m)
		l.updates = s.Done()
		if e == api.OK {
			l.answered = len(l.updates)
			if d.Current() != slot {
				l.small++
			}
			continue
		}
		if e != api.ErrDead {
			t.Fatalf("P16.2: Handle(%v) answers %d", m, e)
		}
		if u, brings := brought(m); brings && len(before) == len(l.updates) {
			l.updates = append(l.updates, u)
		}
		return
	}
}

// found is which beginning of the updates, that has all that was answered, made this table; -1, if none did.
func (l *life) found(all []api.Held) int {
	lines := l.from
	for n := 0; ; n++ {
		if n >= l.answered && sameAll(all, held(lines)) {
			return n
		}
		if n == len(l.updates) {
			return -1
		}
		lines, _ = changed(lines, l.updates[n], l.head.Config.Delta)
	}
}

func linesOf(all []api.Held) []line {
	var lines []line
	for _, h := range all {
		for _, e := range h.Entries {
			lines = append(lines, line{h.Key, e})
		}
	}
	return lines
}

// lived is a server on a disk with these slots, whose machine stops at an act (at none, if that is 0).
func lived(t *testing.T, h api.Head, slots [2][]byte, current int, requests []api.Message, stop int, done bool) (*life, *disk.Disk) {
	t.Helper()
	d, e := disk.Load(slots, current)
	if e != api.OK {
		t.Fatal(e)
	}
	s := opened(t, h, d)
	l := &life{head: h, from: linesOf(s.All())}
	d.Stop(stop, done)
	l.live(t, s, d, requests)
	return l, d
}

// anyRequests: some that bring updates, of one key or two, and now and then, if it is asked for, a Compact.
func anyRequests(rnd *rand.Rand, n int, compacts bool) []api.Message {
	var all []api.Message
	for i := range n {
		key, g := []string{"k", "k", "l"}[rnd.IntN(3)], tg(int64(i/4+1)+rnd.Int64N(4), 1+rnd.IntN(2))
		switch kind := rnd.IntN(12); {
		case kind < 4:
			all = append(all, pre(key, g, string(anyBytes(rnd, 12))))
		case kind < 8:
			all = append(all, fin(key, g))
		case kind < 10:
			all = append(all, read(key, g))
		case kind < 11 || !compacts:
			all = append(all, ask(key))
		default:
			all = append(all, api.Message{})
		}
	}
	return all
}

// eachCrash: choices for what is loose in either slot, or in both.
func eachCrash(most int, f func(choices []int)) {
	for _, whole := range []int{0, 1, 2} {
		for kept := 0; kept < most; kept += 7 {
			f([]int{whole, kept})
			f([]int{0, whole, kept})
			f([]int{whole, kept, whole, kept})
		}
	}
}

// TestWhatLasts: several lives, each stopped ahead of and behind every act; each server that is found lives on from there, and is stopped again.
func TestWhatLasts(t *testing.T) {
	rnd := rand.New(rand.NewPCG(16, 4))
	with, without, small := 0, 0, 0
	for run := range 8 {
		h := head
		h.Config.Delta = run % 3
		slots, current := [2][]byte{}, 0
		for range 2 {
			requests := anyRequests(rnd, 60, run%4 == 0)
			l, d := lived(t, h, slots, current, requests, 0, false)
			acts := d.Acts()
			small += l.small
			for stop := range 2 * acts {
				l, d := lived(t, h, slots, current, requests, 1+stop/2, stop%2 == 0)
				eachCrash(30, func(choices []int) {
					n := l.check(t, d.Crash(choices), stop, choices)
					if n == len(l.updates) {
						with++
					} else {
						without++
					}
				})
				if stop == acts {
					slots, current = d.Crash([]int{stop, 5, stop, 5}).Slots()
				}
			}
		}
	}
	if with < 1000 || without < 1000 || small < 5 {
		t.Fatalf("%d crashes leave all updates, %d do not, %d requests make the log small: the test says little", with, without, small)
	}
}

// check opens the server that is found, also behind an opening that is stopped itself, and is how many updates last.
func (l *life) check(t *testing.T, d *disk.Disk, stop int, choices []int) int {
	t.Helper()
	slots, current := d.Slots()
	all := opened(t, l.head, d).All()
	n := l.found(all)
	if n < 0 {
		t.Fatalf("P16.5: stopped at act %d, Crash(%v): the table is %s, that at Open was %s, the updates were %v, %d of them answered", stop, choices, text(all), text(held(l.from)), l.updates, l.answered)
	}
	again, _ := disk.Load(slots, current)
	again.Stop(1+stop%4, stop%8 < 4)
	server.Open(l.head, again)
	holds(t, opened(t, l.head, again.Crash(choices)), text(all))
	return n
}

// TestCrashBetweenCalls: what was answered lasts, whatever the choices.
func TestCrashBetweenCalls(t *testing.T) {
	rnd := rand.New(rand.NewPCG(16, 5))
	for run := range 30 {
		h := head
		h.Config.Delta = run % 3
		requests := anyRequests(rnd, 60, run%2 == 0)
		for n := range requests {
			l, d := lived(t, h, [2][]byte{}, 0, requests[:n], 0, false)
			if l.answered != len(l.updates) || d.Pending() != 0 {
				t.Fatalf("P16.2: %d of %d updates are answered, %d acts are loose", l.answered, len(l.updates), d.Pending())
			}
			l.check(t, d.Crash(anyChoices(rnd)), n, nil)
		}
	}
}

// TestTheLogIsAheadOfTheAnswer: behind each answer a server that is opened on the disk as it is now has the same table, and answers alike.
func TestTheLogIsAheadOfTheAnswer(t *testing.T) {
	rnd := rand.New(rand.NewPCG(16, 6))
	for run := range 20 {
		h := head
		h.Config.Delta = run % 3
		d := disk.New()
		s := opened(t, h, d)
		for _, m := range anyRequests(rnd, 60, run%2 == 0) {
			if m.Kind == 0 {
				s.Compact()
				continue
			}
			first := answered(t, s, m)
			slots, current := d.Slots()
			twin, _ := disk.Load(slots, current)
			other := opened(t, h, twin)
			holds(t, other, text(s.All()))
			if second := answered(t, other, m); !sameMessages([]api.Message{first}, []api.Message{second}) || len(other.Done()) != 0 {
				t.Fatalf("P16.5: %v was answered %v, and behind a crash %v", m, first, second)
			}
		}
	}
}
