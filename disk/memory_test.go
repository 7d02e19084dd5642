package disk_test

import (
	"bytes"
	"slices"
	"sync"
	"testing"

	"sherd/api"
	"sherd/disk"
)

// roomy: a copy with spare room behind, which is filled.
func roomy(b []byte) []byte {
	all := append(bytes.Clone(b), bytes.Repeat([]byte{0xee}, 16)...)
	return all[:len(b)]
}

// overwrite writes all over a list, its spare room too.
func overwrite(b []byte) {
	b = b[:cap(b)]
	for i := range b {
		b[i] = 0xaa
	}
}

func TestWhatIsAppendedIsNotChangedAndNotKept(t *testing.T) {
	for _, text := range []string{"", "a", "abcdefgh", "a longer one, of more bytes"} {
		given := roomy([]byte(text))
		before := bytes.Clone(given[:cap(given)])
		d, synced := disk.New(), disk.New()
		w := newWords()
		for range 2 {
			d.Append(1, given)
			synced.Append(1, given)
			w.do(add(1, text))
		}
		synced.Sync(1)
		d.Append(1, []byte("more"))
		synced.Append(1, []byte("more"))
		w.do(add(1, "more"))
		d.Read(1)
		if !bytes.Equal(given[:cap(given)], before) {
			t.Fatalf("P2: what was appended was changed: %q", given[:cap(given)])
		}
		overwrite(given)
		check(t, d, w, "an overwriting of what was appended")
		is(t, synced, 1, text+text+"more")
		checkCrash(t, d, w, []int{0, -1}, "an overwriting of what was appended")
		is(t, synced.Crash(nil), 1, text+text)
	}
}

func TestWhatIsLoadedIsNotChangedAndNotKept(t *testing.T) {
	one := roomy([]byte("one and the same"))
	before := bytes.Clone(one[:cap(one)])
	d, e := disk.Load([2][]byte{one, one}, 1)
	if e != api.OK {
		t.Fatal(e)
	}
	d.Append(0, []byte("x"))
	d.Sync(0)
	d.Append(1, []byte("y"))
	d.Sync(1)
	d.Wipe(0)
	d.Append(0, []byte("z"))
	d.Sync(0)
	if !bytes.Equal(one[:cap(one)], before) {
		t.Fatalf("P2: what was loaded was changed: %q", one[:cap(one)])
	}
	overwrite(one)
	holds(t, d, "z", "one and the samey", 1)
}

// allTold: each slot as each call that tells it does.
func allTold(d *disk.Disk) [][]byte {
	slots, _ := d.Slots()
	zero, _ := d.Read(0)
	one, _ := d.Read(1)
	return [][]byte{slots[0], slots[1], zero, one}
}

// TestWhatIsToldIsNewMemory: for slots that last, that are loose, and that are both.
func TestWhatIsToldIsNewMemory(t *testing.T) {
	for _, script := range [][]call{
		{add(0, "abc"), add(1, "abc")},
		{add(0, "abc"), add(1, "abc"), on("Sync", 0), on("Sync", 1)},
		{add(0, "abc"), on("Sync", 0), add(0, "d"), on("Wipe", 1), add(1, "efg")},
		{on("Wipe", 1)},
	} {
		d, w := replay(t, script)
		told, texts := allTold(d), []string{}
		for _, b := range told {
			texts = append(texts, string(b))
		}
		for i, b := range told {
			overwrite(append(b, 1, 2, 3))
			overwrite(b)
			for j := i + 1; j < len(told); j++ {
				if string(told[j]) != texts[j] {
					t.Fatalf("P2: two answers share memory: %q was %q", told[j], texts[j])
				}
			}
		}
		check(t, d, w, "an overwriting of what was told")
		checkCrash(t, d, w, []int{1, 0, 1, 2}, "an overwriting of what was told")
	}
}

// TestTheDisksOfOneCrash: each is a disk of its own, and goes on alone, whether or not what lasted had room for more behind it.
func TestTheDisksOfOneCrash(t *testing.T) {
	for size := range 20 {
		first := string(bytes.Repeat([]byte("f"), size))
		checkDisksOfOneCrash(t, []call{add(0, first), on("Sync", 0), add(0, "abcd"), on("Switch", 1), add(1, first), on("Sync", 1)})
		checkDisksOfOneCrash(t, []call{add(1, first), add(1, "z"), on("Sync", 1), add(1, "ab"), add(0, "cd"), on("Sync", 0)})
	}
}

func checkDisksOfOneCrash(t *testing.T, script []call) {
	t.Helper()
	d, w := replay(t, script)
	all := [][]int{nil, {0, 3}, {0, 3, 3}, {1}, {-1, -1}}
	var found []*disk.Disk
	var want []*words
	for _, choices := range all {
		f, v := checkCrash(t, d, w, choices, script)
		found, want = append(found, f), append(want, v)
	}
	for i := range found {
		for _, c := range []call{add(0, "-"), on("Sync", 0), add(1, "++"), on("Sync", 1), add(1, "12"), on("Switch", 0), on("Wipe", 1), add(1, "3")} {
			checkDo(t, found[i], want[i], c, all[i])
			for j := range found {
				check(t, found[j], want[j], "P5: an act of another disk that the same crash left")
			}
		}
	}
	for _, choices := range all {
		checkCrash(t, d, w, choices, script)
	}
}

func TestChoicesAreNotKept(t *testing.T) {
	d, w := replay(t, []call{add(0, "abc"), add(0, "def"), add(1, "ghi")})
	choices := append(make([]int, 0, 9), 1, 2, 0, 1)
	spare := slices.Clone(choices[:9])
	found, want := checkCrash(t, d, w, choices, "")
	if !slices.Equal(choices[:9], spare) {
		t.Fatalf("P2: Crash wrote behind its choices: %v", choices[:9])
	}
	for i := range choices[:9] {
		choices[:9][i] = 7
	}
	check(t, found, want, "an overwriting of the choices")
}

// TestLongSlots: what a slot has may be long, and of many acts.
func TestLongSlots(t *testing.T) {
	d, w := disk.New(), newWords()
	for i := range 3000 {
		c := add(i%2, string([]byte{byte(i), byte(i >> 8)}))
		if do(d, c) != w.do(c) {
			t.Fatalf("D1: %v", c)
		}
	}
	check(t, d, w, "3000 Appends")
	checkCrash(t, d, w, []int{700, 1, -300, -1}, "3000 Appends")
}

func TestGoroutinesBesideEachOther(t *testing.T) {
	var all sync.WaitGroup
	for i := range 8 {
		all.Go(func() {
			d := disk.New()
			for j := range 200 {
				d.Append(j%2, []byte{byte(i), byte(j)})
				if j%7 == 0 {
					d.Sync(j % 2)
				}
				if j%31 == 0 {
					d = d.Crash([]int{j, i})
				}
				d.Slots()
			}
		})
	}
	all.Wait()
}
