package disk_test

import (
	"math"
	"math/rand/v2"
	"testing"

	"sherd/api"
	"sherd/disk"
)

func add(slot int, data string) call { return call{name: "Append", slot: slot, data: data} }

func on(name string, slot int) call { return call{name: name, slot: slot} }

func stop(n int, done bool) call { return call{name: "Stop", n: n, done: done} }

// after is a new disk on which these calls were OK.
func after(t *testing.T, cs ...call) *disk.Disk {
	t.Helper()
	d := disk.New()
	for _, c := range cs {
		answers(t, d, c, api.OK)
	}
	return d
}

func answers(t *testing.T, d *disk.Disk, c call, want api.Errno) {
	t.Helper()
	if e := do(d, c); e != want {
		t.Fatalf("D1: %v answers %d, want %d", c, e, want)
	}
}

func counts(t *testing.T, d *disk.Disk, acts, pending int, dead bool) {
	t.Helper()
	if d.Acts() != acts || d.Pending() != pending || d.Dead() != dead {
		t.Fatalf("D1: Acts %d, Pending %d, Dead %v, want %d, %d, %v", d.Acts(), d.Pending(), d.Dead(), acts, pending, dead)
	}
}

func is(t *testing.T, d *disk.Disk, slot int, want string) {
	t.Helper()
	if b, e := d.Read(slot); string(b) != want || e != api.OK {
		t.Fatalf("D1: slot %d is %q, %d, want %q", slot, b, e, want)
	}
}

func holds(t *testing.T, d *disk.Disk, zero, one string, current int) {
	t.Helper()
	is(t, d, 0, zero)
	is(t, d, 1, one)
	if d.Current() != current {
		t.Fatalf("D1: slot %d is current, want %d", d.Current(), current)
	}
}

func TestExampleActs(t *testing.T) {
	d := after(t, add(1, "ab"), add(1, "c"))
	is(t, d, 1, "abc")
	counts(t, d, 2, 2, false)
	answers(t, d, on("Sync", 1), api.OK)
	counts(t, d, 3, 0, false)
	answers(t, d, on("Wipe", 0), api.ErrSlot)
	counts(t, d, 3, 0, false)
	answers(t, d, on("Wipe", 1), api.OK)
	is(t, d, 1, "")
	counts(t, d, 4, 1, false)
	answers(t, d, on("Switch", 1), api.OK)
	answers(t, d, on("Wipe", 1), api.ErrSlot)
	answers(t, d, on("Wipe", 0), api.OK)
	counts(t, d, 6, 2, false)
}

type crashed struct {
	choices   []int
	zero, one string
}

func checkCrashes(t *testing.T, d *disk.Disk, cs []crashed) {
	t.Helper()
	for _, c := range cs {
		found := d.Crash(c.choices)
		holds(t, found, c.zero, c.one, 0)
		counts(t, found, 0, 0, false)
	}
}

func TestExampleCrashes(t *testing.T) {
	d := after(t, add(0, "abc"), add(0, "de"))
	checkCrashes(t, d, []crashed{{nil, "", ""}, {[]int{0, 2}, "ab", ""}, {[]int{0, 3}, "", ""}, {[]int{1}, "abc", ""},
		{[]int{1, 1}, "abcd", ""}, {[]int{2}, "abcde", ""}, {[]int{-1}, "abcde", ""}, {[]int{1, -1}, "abcd", ""}})
	counts(t, d, 2, 2, true)

	d = after(t, add(1, "x"), on("Sync", 1), on("Wipe", 1), add(1, "yz"))
	checkCrashes(t, d, []crashed{{[]int{0, 0}, "", "x"}, {[]int{0, 1, 1}, "", "y"}, {[]int{0, 1}, "", ""}, {[]int{0, 2}, "", "yz"}, {[]int{0, 0, 1}, "", "x"}})

	d = after(t, add(0, "a"), add(1, "b"))
	checkCrashes(t, d, []crashed{{[]int{0, 0, 0, 0}, "", ""}, {[]int{1, 1}, "a", "b"}})
}

// TestAWipeTakesNoSecondChoice: what stands behind it in the list is the next slot's.
func TestAWipeTakesNoSecondChoice(t *testing.T) {
	d := after(t, on("Switch", 1), add(0, "x"), on("Sync", 0), on("Wipe", 0), add(1, "pq"), on("Switch", 0))
	checkCrashes(t, d, []crashed{{[]int{0, 1}, "x", "pq"}, {[]int{0, 0, 1}, "x", "p"}, {[]int{1, 1}, "", "pq"}, {[]int{1, 0, 1}, "", "p"}})
}

func TestExampleStops(t *testing.T) {
	d := after(t, stop(2, true), add(0, "a"))
	answers(t, d, on("Sync", 0), api.ErrDead)
	counts(t, d, 2, 0, true)
	answers(t, d, add(0, "b"), api.ErrDead)
	if b, e := d.Read(0); b != nil || e != api.ErrDead {
		t.Fatalf("D1: Read of a dead disk: %q, %d", b, e)
	}
	holds(t, d.Crash(nil), "a", "", 0)

	d = after(t, stop(2, false), add(0, "a"))
	answers(t, d, on("Sync", 0), api.ErrDead)
	counts(t, d, 1, 1, true)
	holds(t, d.Crash(nil), "", "", 0)

	d = after(t, stop(1, true))
	answers(t, d, on("Wipe", 0), api.ErrSlot)
	counts(t, d, 0, 0, false)
	answers(t, d, add(0, ""), api.ErrDead)
	counts(t, d, 1, 0, true)

	d = after(t, stop(1, true), stop(0, false), add(0, "a"), on("Switch", 1))
	holds(t, d.Crash(nil), "", "", 1)
}

func TestExampleLoads(t *testing.T) {
	slots := [2][]byte{[]byte("a"), []byte("b")}
	for _, current := range []int{2, -1, 3, math.MaxInt, math.MinInt} {
		if d, e := disk.Load(slots, current); d != nil || e != api.ErrSlot {
			t.Errorf("D1: Load with slot %d: %v, %d", current, d, e)
		}
	}
	for current := range 2 {
		d, e := disk.Load(slots, current)
		if e != api.OK {
			t.Fatalf("D1: Load with slot %d: %d", current, e)
		}
		holds(t, d, "a", "b", current)
		counts(t, d, 0, 0, false)
		holds(t, d.Crash(nil), "a", "b", current)
		holds(t, d.Crash([]int{5, 6, 7}), "a", "b", current)
	}
}

func TestWrongSlots(t *testing.T) {
	for _, slot := range []int{-1, 2, 3, 256, 1 << 32, math.MaxInt, math.MinInt} {
		d := after(t, add(0, "a"), stop(1, false))
		for _, name := range []string{"Append", "Wipe", "Sync", "Switch"} {
			answers(t, d, on(name, slot), api.ErrSlot)
			answers(t, d, call{name: name, slot: slot, data: "x"}, api.ErrSlot)
		}
		if b, e := d.Read(slot); b != nil || e != api.ErrSlot {
			t.Errorf("D1: Read(%d): %q, %d", slot, b, e)
		}
		holds(t, d, "a", "", 0)
		counts(t, d, 1, 1, false)
		answers(t, d, on("Sync", 0), api.ErrDead)
	}
}

// TestADeadDisk: whichever way it died, ErrDead comes ahead of ErrSlot, and nothing is told but what the chapter names.
func TestADeadDisk(t *testing.T) {
	begin := []call{on("Switch", 1), add(0, "ab"), add(1, "c"), on("Sync", 1), on("Wipe", 0)}
	deaths := []struct {
		die           func(d *disk.Disk)
		acts, pending int
	}{
		{func(d *disk.Disk) { d.Crash([]int{1}) }, 5, 2},
		{func(d *disk.Disk) { d.Stop(1, true); d.Append(0, []byte("z")) }, 6, 3},
		{func(d *disk.Disk) { d.Stop(1, false); d.Append(0, []byte("z")) }, 5, 2},
	}
	for _, death := range deaths {
		d := after(t, begin...)
		death.die(d)
		for range 2 {
			for _, slot := range []int{0, 1, 2, -1} {
				for _, name := range []string{"Append", "Wipe", "Sync", "Switch"} {
					answers(t, d, call{name: name, slot: slot, data: "x"}, api.ErrDead)
				}
				answers(t, d, stop(slot, true), api.ErrDead)
				if b, e := d.Read(slot); b != nil || e != api.ErrDead {
					t.Fatalf("D1: Read of a dead disk: %q, %d", b, e)
				}
			}
			if s, current := d.Slots(); len(s[0])+len(s[1]) > 0 || current != 0 || d.Current() != 0 {
				t.Fatalf("D1: a dead disk tells the slots %q, %d", s, current)
			}
			counts(t, d, death.acts, death.pending, true)
			holds(t, d.Crash([]int{1}), "ab", "c", 1)
			counts(t, d, death.acts, death.pending, true)
		}
	}
}

func TestStopNamesTheNth(t *testing.T) {
	names := []call{add(0, "ab"), add(0, ""), on("Sync", 0), on("Switch", 1), on("Wipe", 0), on("Switch", 1), add(1, "c"), on("Sync", 1)}
	for n := 1; n <= len(names)+1; n++ {
		for _, done := range []bool{true, false} {
			d := after(t, stop(n, done))
			for i, c := range names {
				answers(t, d, on("Sync", 2), before(i < n, api.ErrSlot))
				if i+1 < n {
					answers(t, d, c, api.OK)
				} else {
					answers(t, d, c, api.ErrDead)
				}
			}
			acts := min(n-1, len(names))
			if done {
				acts = min(n, len(names))
			}
			if d.Acts() != acts || d.Dead() != (n <= len(names)) {
				t.Errorf("D1: Stop(%d, %v): Acts %d, Dead %v", n, done, d.Acts(), d.Dead())
			}
		}
	}
}

// before: what an act is answered while the disk lives, else ErrDead.
func before(lives bool, e api.Errno) api.Errno {
	if lives {
		return e
	}
	return api.ErrDead
}

func TestStopsFarAway(t *testing.T) {
	for _, n := range []int{0, -1, math.MinInt, math.MaxInt, math.MaxInt - 1} {
		d := after(t, stop(1, true), stop(n, true))
		for range 100 {
			answers(t, d, add(0, "a"), api.OK)
		}
		counts(t, d, 100, 100, false)
	}
}

// TestAStopIsOneDisksAlone: a disk that a crash leaves doesn't stop where the other one was to.
func TestAStopIsOneDisksAlone(t *testing.T) {
	d := after(t, stop(1, false)).Crash(nil)
	answers(t, d, add(0, "a"), api.OK)
	d = after(t, stop(2, true), add(0, "a")).Crash(nil)
	answers(t, d, add(0, "b"), api.OK)
	answers(t, d, add(0, "c"), api.OK)
	is(t, d, 0, "bc")
}

// TestWhatIsSyncedLasts: D2, by all kinds of choices.
func TestWhatIsSyncedLasts(t *testing.T) {
	rnd := rand.New(rand.NewPCG(13, 3))
	for slot := range 2 {
		for range 300 {
			d, want, current := disk.New(), "", 0
			for range rnd.IntN(8) {
				c := anyCall(rnd)
				if do(d, c) == api.OK && c.name == "Switch" {
					current = c.slot
				}
			}
			if d.Dead() || d.Stop(0, false) != api.OK || d.Sync(slot) != api.OK {
				continue
			}
			b, _ := d.Read(slot)
			want = string(b)
			for range rnd.IntN(4) {
				d.Append(1-slot, []byte("other"))
			}
			for range 20 {
				found := d.Crash(anyChoices(rnd))
				if b, e := found.Read(slot); string(b) != want || e != api.OK {
					t.Fatalf("D2: a synced slot is %q behind a crash, was %q", b, want)
				}
				if found.Current() != current {
					t.Fatalf("D2: slot %d is current behind a crash, was %d", found.Current(), current)
				}
			}
		}
	}
}

// TestBeginningsOfAppends: D3: behind each crash a beginning, and each of them behind some crash.
func TestBeginningsOfAppends(t *testing.T) {
	for slot := range 2 {
		for _, pieces := range [][]string{{}, {"a"}, {"abc"}, {"a", "b", "c"}, {"ab", "", "cde", "f"}, {"abcde", "fghij"}} {
			d := after(t, add(slot, "old"), on("Sync", slot))
			whole := "old"
			for _, p := range pieces {
				answers(t, d, add(slot, p), api.OK)
				whole += p
			}
			found := map[string]int{}
			eachChoices(3, -3, 6, func(choices []int) {
				b, e := d.Crash(append(make([]int, slot), choices...)).Read(slot)
				if e != api.OK || len(b) < 3 || len(b) > len(whole) || string(b) != whole[:len(b)] {
					t.Fatalf("D3: %q, %d is no beginning of %q with what lasted", b, e, whole)
				}
				found[string(b)]++
			})
			if len(found) != len(whole)-2 {
				t.Errorf("D3: %d beginnings of %q are had, want %d", len(found), whole, len(whole)-2)
			}
		}
	}
}

// TestLoadGoesOnAsASyncedDisk: D4: both are told the same, and tell the same; their Acts differ by those ahead of the Load.
func TestLoadGoesOnAsASyncedDisk(t *testing.T) {
	rnd := rand.New(rand.NewPCG(13, 4))
	for range 500 {
		d := disk.New()
		for range rnd.IntN(12) {
			if c := anyCall(rnd); c.name != "Stop" {
				do(d, c)
			}
		}
		slots, current := d.Slots()
		loaded, e := disk.Load(slots, current)
		if e != api.OK {
			t.Fatalf("D4: what Slots tells is not loaded: %d", e)
		}
		d.Sync(0)
		d.Sync(1)
		ahead := d.Acts()
		for range rnd.IntN(20) {
			c := anyCall(rnd)
			if one, other := do(d, c), do(loaded, c); one != other {
				t.Fatalf("D4: %v answers %d, and %d the loaded disk", c, one, other)
			}
			same(t, d, loaded, ahead)
		}
		for range 5 {
			choices := anyChoices(rnd)
			same(t, d.Crash(choices), loaded.Crash(choices), 0)
			same(t, d, loaded, ahead)
		}
	}
}

func same(t *testing.T, d, o *disk.Disk, ahead int) {
	t.Helper()
	one, a := d.Slots()
	other, b := o.Slots()
	if string(one[0]) != string(other[0]) || string(one[1]) != string(other[1]) || a != b {
		t.Fatalf("D4: %q, %d and %q, %d", one, a, other, b)
	}
	if d.Acts() != o.Acts()+ahead || d.Pending() != o.Pending() || d.Dead() != o.Dead() {
		t.Fatalf("D4: Acts %d, Pending %d, Dead %v and %d, %d, %v", d.Acts()-ahead, d.Pending(), d.Dead(), o.Acts(), o.Pending(), o.Dead())
	}
}

// TestEachChoiceByEachNumber: modulo, far below 0 and far above too.
func TestEachChoiceByEachNumber(t *testing.T) {
	for n := 1; n <= 40; n++ {
		d := disk.New()
		d.Append(0, make([]byte, n))
		torn, loose := newWords(), newWords()
		torn.do(add(0, string(make([]byte, n))))
		many := disk.New()
		for range n {
			many.Append(1, []byte("m"))
			loose.do(add(1, "m"))
		}
		for _, from := range []int{math.MinInt, -100, -1, 0, 1 << 31, 1 << 32, math.MaxInt - 100} {
			for c := from; c <= from+99; c++ {
				checkCrash(t, d, torn, []int{0, c}, n)
				checkCrash(t, many, loose, []int{c, c}, n)
			}
		}
	}
}

func TestNil(t *testing.T) {
	var d *disk.Disk
	for _, c := range calls() {
		answers(t, d, c, api.OK)
	}
	for _, slot := range []int{-1, 0, 1, 2} {
		if b, e := d.Read(slot); b != nil || e != api.OK {
			t.Errorf("P1: Read(%d) of a nil disk: %q, %d", slot, b, e)
		}
	}
	if s, current := d.Slots(); s[0] != nil || s[1] != nil || current != 0 || d.Current() != 0 {
		t.Errorf("P1: a nil disk tells the slots %q, %d", s, current)
	}
	counts(t, d, 0, 0, false)
	if d.Crash(nil) != nil || d.Crash([]int{1, 2}) != nil || d.Dead() {
		t.Errorf("P1: a nil disk crashes")
	}
}
