package disk_test

import (
	"fmt"
	"math"
	"math/big"
	"math/rand/v2"
	"slices"
	"testing"

	"sherd/api"
	"sherd/disk"
)

// The chapter told a second time: a slot is a list of what a crash may find, one stand for each number of loose acts that last whole; a stand's first text is what is found if no more lasts, the others are what is found of a further Append's bytes. Nothing is ever done again: what may be found is written down when the act is called.

type stand struct {
	found []string
	tears bool // an Append is behind: a second choice is taken
}

type words struct {
	slots   [2][]stand
	current int
	acts    int
	dead    bool
	fuse    *fuse
}

type fuse struct {
	n    int
	done bool
}

func newWords() *words { return loadWords([2]string{}, 0) }

func loadWords(texts [2]string, current int) *words {
	w := &words{current: current}
	for i, s := range texts {
		w.slots[i] = []stand{{found: []string{s}}}
	}
	return w
}

func (w *words) now(slot int) string {
	all := w.slots[slot]
	return all[len(all)-1].found[0]
}

func (w *words) pending() int { return len(w.slots[0]) + len(w.slots[1]) - 2 }

// call is one call; what it doesn't use is zero.
type call struct {
	name string
	slot int
	data string
	n    int
	done bool
}

func (c call) String() string {
	switch c.name {
	case "Append":
		return fmt.Sprintf("Append(%d, %q)", c.slot, c.data)
	case "Stop":
		return fmt.Sprintf("Stop(%d, %v)", c.n, c.done)
	}
	return fmt.Sprintf("%s(%d)", c.name, c.slot)
}

func (w *words) do(c call) api.Errno {
	if w.dead {
		return api.ErrDead
	}
	if c.name == "Stop" {
		w.fuse = nil
		if c.n >= 1 {
			w.fuse = &fuse{c.n, c.done}
		}
		return api.OK
	}
	if c.slot < 0 || c.slot > 1 || c.name == "Wipe" && c.slot == w.current {
		return api.ErrSlot
	}
	if w.fuse != nil && w.fuse.n == 1 {
		if w.fuse.done {
			w.change(c)
		}
		w.dead = true
		return api.ErrDead
	}
	if w.fuse != nil {
		w.fuse.n--
	}
	w.change(c)
	return api.OK
}

func (w *words) change(c call) {
	w.acts++
	all := w.slots[c.slot]
	last := len(all) - 1
	switch {
	case c.name == "Append" && c.data != "":
		old := w.now(c.slot)
		for i := 1; i < len(c.data); i++ {
			all[last].found = append(all[last].found, old+c.data[:i])
		}
		all[last].tears = true
		w.slots[c.slot] = append(all, stand{found: []string{old + c.data}})
	case c.name == "Wipe":
		w.slots[c.slot] = append(all, stand{found: []string{""}})
	case c.name == "Sync":
		w.slots[c.slot] = []stand{{found: []string{w.now(c.slot)}}}
	case c.name == "Switch":
		w.current = c.slot
	}
}

// moduloByWords: math/big's Mod is never below 0.
func moduloByWords(c, m int) int {
	return int(new(big.Int).Mod(big.NewInt(int64(c)), big.NewInt(int64(m))).Int64())
}

func (w *words) crash(choices []int) *words {
	w.dead = true
	take := func(m int) int {
		if len(choices) == 0 {
			return 0
		}
		c := choices[0]
		choices = choices[1:]
		return moduloByWords(c, m)
	}
	var texts [2]string
	for i, all := range w.slots {
		s := all[take(len(all))]
		texts[i] = s.found[0]
		if s.tears {
			texts[i] = s.found[take(len(s.found))]
		}
	}
	return loadWords(texts, w.current)
}

func do(d *disk.Disk, c call) api.Errno {
	switch c.name {
	case "Append":
		return d.Append(c.slot, []byte(c.data))
	case "Wipe":
		return d.Wipe(c.slot)
	case "Sync":
		return d.Sync(c.slot)
	case "Switch":
		return d.Switch(c.slot)
	case "Stop":
		return d.Stop(c.n, c.done)
	}
	panic(c.name)
}

// check holds all that a disk tells against the words.
func check(t *testing.T, d *disk.Disk, w *words, behind ...any) {
	t.Helper()
	if d.Acts() != w.acts || d.Pending() != w.pending() || d.Dead() != w.dead {
		t.Fatalf("D1: behind %v: Acts %d, Pending %d, Dead %v, want %d, %d, %v", behind, d.Acts(), d.Pending(), d.Dead(), w.acts, w.pending(), w.dead)
	}
	current, e := w.current, api.OK
	texts := [2]string{w.now(0), w.now(1)}
	if w.dead {
		current, e, texts = 0, api.ErrDead, [2]string{}
	}
	if d.Current() != current {
		t.Fatalf("D1: behind %v: Current %d, want %d", behind, d.Current(), current)
	}
	slots, c := d.Slots()
	if c != current || string(slots[0]) != texts[0] || string(slots[1]) != texts[1] {
		t.Fatalf("D1: behind %v: Slots %q, %d, want %q, %d", behind, slots, c, texts, current)
	}
	for i, text := range texts {
		if b, got := d.Read(i); string(b) != text || got != e {
			t.Fatalf("D1: behind %v: Read(%d) is %q, %d, want %q, %d", behind, i, b, got, text, e)
		}
	}
}

func checkDo(t *testing.T, d *disk.Disk, w *words, c call, behind ...any) {
	t.Helper()
	if got, want := do(d, c), w.do(c); got != want {
		t.Fatalf("D1: behind %v: %v answers %d, want %d", behind, c, got, want)
	}
	check(t, d, w, behind, c)
}

func checkCrash(t *testing.T, d *disk.Disk, w *words, choices []int, behind ...any) (*disk.Disk, *words) {
	t.Helper()
	given := slices.Clone(choices)
	found, want := d.Crash(choices), w.crash(choices)
	if !slices.Equal(given, choices) {
		t.Fatalf("P2: Crash changed its choices %v to %v", given, choices)
	}
	check(t, found, want, behind, "Crash", choices)
	check(t, d, w, behind, "Crash", choices, "(the dead one)")
	return found, want
}

// calls: each act on each slot and beside them, and each kind of Stop.
func calls() []call {
	var all []call
	for slot := range 2 {
		for _, data := range []string{"", "a", "bcd"} {
			all = append(all, call{name: "Append", slot: slot, data: data})
		}
		for _, name := range []string{"Wipe", "Sync", "Switch"} {
			all = append(all, call{name: name, slot: slot})
		}
	}
	for n := range 3 {
		all = append(all, call{name: "Stop", n: n, done: true}, call{name: "Stop", n: n})
	}
	for i, name := range []string{"Append", "Wipe", "Sync", "Switch"} {
		all = append(all, call{name: name, slot: 3*(i%2) - 1, data: "x"})
	}
	return all
}

func replay(t *testing.T, script []call) (*disk.Disk, *words) {
	t.Helper()
	d, w := disk.New(), newWords()
	for i, c := range script {
		if got, want := do(d, c), w.do(c); got != want {
			t.Fatalf("D1: behind %v: %v answers %d, want %d", script[:i], c, got, want)
		}
	}
	check(t, d, w, script)
	return d, w
}

// eachScript: all scripts of that many calls.
func eachScript(size int, f func(script []call)) {
	all := calls()
	script := make([]call, size)
	var from func(i int)
	from = func(i int) {
		if i == size {
			f(script)
			return
		}
		for _, c := range all {
			script[i] = c
			from(i + 1)
		}
	}
	from(0)
}

// eachChoices: all lists of up to that many numbers from low to high.
func eachChoices(size, low, high int, f func(choices []int)) {
	var from func(list []int)
	from = func(list []int) {
		f(list)
		if len(list) == size {
			return
		}
		for c := low; c <= high; c++ {
			from(append(slices.Clone(list), c))
		}
	}
	from(nil)
}

func TestAllShortScripts(t *testing.T) {
	for size := range 3 {
		eachScript(size, func(script []call) {
			d, w := replay(t, script)
			eachChoices(4, -2, 2, func(choices []int) { checkCrash(t, d, w, choices, script) })
		})
	}
	eachScript(3, func(script []call) {
		d, w := replay(t, script)
		eachChoices(4, 0, 1, func(choices []int) { checkCrash(t, d, w, choices, script) })
	})
	rnd := rand.New(rand.NewPCG(13, 1))
	eachScript(4, func(script []call) {
		d, w := replay(t, script)
		checkCrash(t, d, w, []int{rnd.IntN(9) - 4, rnd.IntN(9) - 4, rnd.IntN(9) - 4, rnd.IntN(9) - 4}, script)
	})
}

func anyChoice(rnd *rand.Rand) int {
	switch rnd.IntN(8) {
	case 0:
		return int(rnd.Uint64())
	case 1:
		return math.MinInt + rnd.IntN(5)
	case 2:
		return math.MaxInt - rnd.IntN(5)
	}
	return rnd.IntN(80) - 40
}

func anyChoices(rnd *rand.Rand) []int {
	list := make([]int, rnd.IntN(6))
	for i := range list {
		list[i] = anyChoice(rnd)
	}
	return list
}

func anyCall(rnd *rand.Rand) call {
	c := call{slot: rnd.IntN(2)}
	switch n := rnd.IntN(40); {
	case n < 20:
		c.name, c.data = "Append", string(make([]byte, rnd.IntN(6)))
		b := []byte(c.data)
		for i := range b {
			b[i] = byte('a' + rnd.IntN(26))
		}
		c.data = string(b)
	case n < 26:
		c.name = "Wipe"
	case n < 30:
		c.name = "Sync"
	case n < 35:
		c.name = "Switch"
	case n < 37:
		c.name, c.n, c.done = "Stop", rnd.IntN(40)-3, rnd.IntN(2) == 0
	default:
		c = call{name: []string{"Append", "Wipe", "Sync", "Switch"}[rnd.IntN(4)], slot: anyChoice(rnd), data: "z"}
	}
	return c
}

// TestLongScripts: many disks beside each other, each of which dies now and then and goes on as one that a crash leaves of it, often behind other crashes of the same one.
func TestLongScripts(t *testing.T) {
	rnd := rand.New(rand.NewPCG(13, 2))
	type pair struct {
		d *disk.Disk
		w *words
	}
	for range 40 {
		pairs := make([]pair, 5)
		for i := range pairs {
			pairs[i] = pair{disk.New(), newWords()}
		}
		crashes := 0
		for step := range 600 {
			p := &pairs[rnd.IntN(len(pairs))]
			if rnd.IntN(25) == 0 || p.d.Dead() && rnd.IntN(3) == 0 {
				crashes++
				for range rnd.IntN(4) {
					checkCrash(t, p.d, p.w, anyChoices(rnd), step)
				}
				d, w := checkCrash(t, p.d, p.w, anyChoices(rnd), step)
				*p = pair{d, w}
				continue
			}
			checkDo(t, p.d, p.w, anyCall(rnd), step)
			for i, other := range pairs {
				check(t, other.d, other.w, "P5: a call of another disk than", i)
			}
		}
		if crashes < 10 {
			t.Fatalf("%d crashes: the test says little", crashes)
		}
	}
}
