package record_test

import (
	"bytes"
	"math/rand/v2"
	"slices"
	"strings"
	"testing"

	"sherd/api"
	"sherd/record"
)

// made: the log that a writer makes, its marks, and the writer.
func made(t *testing.T, h api.Head, us ...api.Update) ([]byte, []int, *record.Writer) {
	t.Helper()
	w, all, e := record.New(h)
	if e != api.OK {
		t.Fatal(e)
	}
	marks := []int{len(all)}
	for _, u := range us {
		b, e := w.Put(u)
		if e != api.OK {
			t.Fatal(e)
		}
		all = append(all, b...)
		marks = append(marks, len(all))
	}
	return all, marks, w
}

func own(us []api.Update) []api.Update {
	var all []api.Update
	for _, u := range us {
		all = append(all, ownForm(u))
	}
	return all
}

func TestScanExamples(t *testing.T) {
	head, _, _ := made(t, example)
	bad := bytes.Clone(head)
	bad[8] ^= 1
	for _, data := range [][]byte{nil, {}, {0x48}, bad} {
		if got := checkScan(t, data); !sameFound(got, found{e: api.ErrTorn}) {
			t.Errorf("P11.3: Scan of %x: %v", data, got)
		}
	}
	if got := checkScan(t, head); !sameFound(got, found{head: example, marks: []int{9}}) {
		t.Errorf("P11.3: Scan of a head: %v", got)
	}
	log, _, _ := made(t, example, fin("k", 1, 7))
	if got := checkScan(t, log[:len(log)-1]); !sameFound(got, found{head: example, marks: []int{9}, why: api.ErrShort}) {
		t.Errorf("P11.3: with the last byte missing: %v", got)
	}
	if got := checkScan(t, append(bytes.Clone(head), 0)); !sameFound(got, found{head: example, marks: []int{9}, why: api.ErrKind}) {
		t.Errorf("P11.3: with 00 behind: %v", got)
	}
	twice := append(bytes.Clone(log), log[9:]...)
	if got := checkScan(t, twice); !sameFound(got, found{head: example, updates: []api.Update{fin("k", 1, 7)}, marks: []int{9, 20}, why: api.ErrSum}) {
		t.Errorf("P11.3: with a record twice: %v", got)
	}
}

// TestScanReasons: what stands behind a head or a record: why it doesn't stand, the first reason that applies.
func TestScanReasons(t *testing.T) {
	alone, _, _ := made(t, example)
	full, _, _ := made(t, example, fin("k", 1, 7), pre("k", 2, 7, "xy"))
	for _, log := range [][]byte{alone, full} {
		before := scanByWords(log)
		for _, c := range []struct {
			name string
			tail []byte
			why  api.Errno
		}{
			{"nothing", nil, api.OK}, {"00", []byte{0}, api.ErrKind}, {"a head's mark", []byte{0x48}, api.ErrKind}, {"a head", alone, api.ErrKind}, {"53", []byte{0x53}, api.ErrKind}, {"d2", []byte{0xd2}, api.ErrKind},
			{"a mark alone", []byte{0x52}, api.ErrShort}, {"half a number", []byte{0x52, 0x80}, api.ErrShort}, {"eight bytes of a number", append([]byte{0x52}, bytes.Repeat([]byte{0xff}, 8)...), api.ErrShort},
			{"nine such bytes", append([]byte{0x52}, bytes.Repeat([]byte{0xff}, 9)...), api.ErrForm}, {"ten", append([]byte{0x52}, bytes.Repeat([]byte{0x80}, 10)...), api.ErrForm},
			{"a number with a zero behind", []byte{0x52, 0x80, 0}, api.ErrForm}, {"likewise, whole", []byte{0x52, 0x81, 0, 2, 1, 2, 3, 4}, api.ErrForm}, {"the greatest number", append([]byte{0x52}, form(1<<63-1)...), api.ErrForm},
			{"66001", append([]byte{0x52}, form(66001)...), api.ErrForm}, {"66000", append([]byte{0x52}, form(66000)...), api.ErrShort}, {"66001, and as many bytes", slices.Concat([]byte{0x52}, form(66001), make([]byte, 66005)), api.ErrForm},
			{"66000, and as many bytes", slices.Concat([]byte{0x52}, form(66000), make([]byte, 66004)), api.ErrSum}, {"66000, and one less", slices.Concat([]byte{0x52}, form(66000), make([]byte, 66003)), api.ErrShort}, {"66000 with their sum", with(log, make([]byte, 66000))[len(log):], api.ErrForm}, {"66001 with their sum", with(log, make([]byte, 66001))[len(log):], api.ErrForm},
			{"no body, no sum", []byte{0x52, 0}, api.ErrShort}, {"no body, three bytes", []byte{0x52, 0, 1, 2, 3}, api.ErrShort}, {"no body, another sum", []byte{0x52, 0, 1, 2, 3, 4}, api.ErrSum}, {"no body, its sum", with(log, nil)[len(log):], api.ErrForm},
			{"a body without its sum", []byte{0x52, 5, 2, 1, 'k', 1, 7}, api.ErrShort}, {"the head's sum for its own", append([]byte{0x52, 5, 2, 1, 'k', 1, 7}, sumOf([]byte{0x52, 5, 2, 1, 'k', 1, 7})...), api.ErrSum},
		} {
			got := checkScan(t, append(bytes.Clone(log), c.tail...))
			if got.why != c.why || got.e != api.OK || len(got.updates) != len(before.updates) || !slices.Equal(got.marks, before.marks) {
				t.Errorf("P11.3: with %s behind %d bytes: %d updates, marks %v, why %d, want %d", c.name, len(log), len(got.updates), got.marks, got.why, c.why)
			}
		}
	}
}

// TestScanBodies: bodies with right sums, that may be and may not.
func TestScanBodies(t *testing.T) {
	long := func(head string, size int) string {
		return head + string(form(int64(size))) + strings.Repeat("d", size)
	}
	tag := "\x01\x01"
	for _, c := range []struct {
		name string
		body string
		ok   bool
	}{
		{"none", "", false}, {"a kind alone", "\x02", false}, {"UFin", "\x02\x01k" + tag, true}, {"UFin with a byte behind", "\x02\x01k" + tag + "\x00", false}, {"UFin with data", "\x02\x01k" + tag + "\x00\x00", false},
		{"the kind 0", "\x00\x01k" + tag, false}, {"the kind 4", "\x04\x01k" + tag, false}, {"the kind 0x82", "\x82\x01k" + tag, false}, {"the kind 4 as UEntry", "\x04\x01k" + tag + "\x01\x00", false},
		{"no key", "\x02\x00" + tag, false}, {"a key of 64", "\x02\x40" + strings.Repeat("k", 64) + tag, true}, {"a key of 65", "\x02\x41" + strings.Repeat("k", 65) + tag, false}, {"a key's length in another form", "\x02\x81\x00k" + tag, false}, {"a key cut off", "\x02\x02k", false},
		{"the initial tag", "\x02\x01k\x00\x00", false}, {"no client", "\x02\x01k\x01\x00", false}, {"no count", "\x02\x01k\x00\x01", false}, {"no tag", "\x02\x01k", false}, {"half a tag", "\x02\x01k\x01", false}, {"a count in another form", "\x02\x01k\x81\x00\x01", false},
		{"the greatest tag", "\x02\x01k" + string(form(greatest)) + string(form(65535)), true}, {"a greater count", "\x02\x01k" + string(form(greatest+1)) + "\x01", false}, {"a greater client", "\x02\x01k\x01" + string(form(65536)), false},
		{"UPre", "\x01\x01k" + tag + "\x00", true}, {"UPre without data's length", "\x01\x01k" + tag, false}, {"UPre with two bytes", "\x01\x01k" + tag + "\x02ab", true}, {"UPre with a byte too few", "\x01\x01k" + tag + "\x02a", false}, {"UPre with one too many", "\x01\x01k" + tag + "\x01ab", false}, {"UPre with a length in another form", "\x01\x01k" + tag + "\x80\x00", false},
		{"the longest data", long("\x01\x01k"+tag, 65540), true}, {"longer data", long("\x01\x01k"+tag, 65541), false}, {"much longer data", long("\x01\x01k"+tag, 65900), false},
		{"UEntry, Fin", "\x03\x01k" + tag + "\x01\x00", true}, {"UEntry, Has", "\x03\x01k" + tag + "\x00\x01\x01d", true}, {"UEntry, both", "\x03\x01k" + tag + "\x01\x01\x00", true}, {"UEntry, neither", "\x03\x01k" + tag + "\x00\x00", false},
		{"UEntry, Fin 2", "\x03\x01k" + tag + "\x02\x00", false}, {"UEntry, Has 2", "\x03\x01k" + tag + "\x01\x02", false}, {"UEntry, Has without data", "\x03\x01k" + tag + "\x01\x01", false}, {"UEntry, data without Has", "\x03\x01k" + tag + "\x01\x00\x00", false}, {"UEntry, one flag", "\x03\x01k" + tag + "\x01", false},
		{"UEntry, the longest data", long("\x03\x01k"+tag+"\x00\x01", 65540), true}, {"UEntry, longer data", long("\x03\x01k"+tag+"\x00\x01", 65541), false},
	} {
		log, _, _ := made(t, example, fin("k", 1, 7))
		data := with(log, []byte(c.body))
		got := checkScan(t, data)
		if c.ok && (got.why != api.OK || len(got.updates) != 2 || got.marks[2] != len(data)) || !c.ok && (got.why != api.ErrForm || len(got.updates) != 1 || len(got.marks) != 2) {
			t.Errorf("P11.3: %s: %d updates, marks %v, why %d", c.name, len(got.updates), got.marks, got.why)
		}
		behind := append(data, with(data, bodyBytes(fin("more", 8, 8)))[len(data):]...)
		if got := checkScan(t, behind); len(got.updates) != map[bool]int{true: 3, false: 1}[c.ok] {
			t.Errorf("P11.3: %s: %d updates with one more behind", c.name, len(got.updates))
		}
	}
}

// TestScanHeads: heads in their one form and in others, with right sums.
func TestScanHeads(t *testing.T) {
	for _, c := range []struct {
		name  string
		piece string
		ok    bool
	}{
		{"the least", "\x48\x01\x01\x00\x00", true}, {"the greatest", "\x48" + string(form(255)) + string(form(255)) + string(form(greatest)) + string(form(254)), true},
		{"another mark", "\x49\x01\x01\x00\x00", false}, {"a record's mark", "\x52\x01\x01\x00\x00", false}, {"no server", "\x48\x01\x01\x00", false}, {"the mark alone", "\x48", false}, {"nothing", "", false},
		{"N 0", "\x48\x00\x01\x00\x00", false}, {"K 0", "\x48\x01\x00\x00\x00", false}, {"K above N", "\x48\x01\x02\x00\x00", false}, {"Server N", "\x48\x01\x01\x00\x01", false},
		{"N 256", "\x48\x80\x02\x01\x00\x00", false}, {"Delta too great", "\x48\x01\x01" + string(form(greatest+1)) + "\x00", false}, {"the greatest Delta of pack", "\x48\x01\x01" + string(form(1<<63-1)) + "\x00", false}, {"Server 255", "\x48\xff\x01\x01\x00\xff\x01", false}, {"Server 1000", "\x48\xff\x01\x01\x00\xe8\x07", false},
		{"N in another form", "\x48\x81\x00\x01\x00\x00", false}, {"K in another form", "\x48\x01\x81\x00\x00\x00", false}, {"Delta in another form", "\x48\x01\x01\x80\x00\x00", false}, {"Server in another form", "\x48\x01\x01\x00\x80\x00", false},
		{"a number without end", "\x48\x01\x01" + strings.Repeat("\x80", 30), false}, {"a number of ten bytes", "\x48\x01\x01" + strings.Repeat("\x80", 9) + "\x01\x00", false},
	} {
		data := append([]byte(c.piece), sumOf([]byte(c.piece))...)
		for _, tail := range [][]byte{nil, {0}, {0x52}, make([]byte, 100), with(data, bodyBytes(fin("k", 1, 1)))[len(data):]} {
			got := checkScan(t, append(bytes.Clone(data), tail...))
			if c.ok && (got.e != api.OK || got.marks[0] != len(data)) || !c.ok && !sameFound(got, found{e: api.ErrTorn}) {
				t.Errorf("P11.3: %s: %v", c.name, got)
			}
		}
	}
}

// words calls f with all texts of the signs up to so many.
func words(signs string, long int, f func(word []byte)) {
	for size := range long + 1 {
		word := make([]byte, size)
		all := 1
		for range size {
			all *= len(signs)
		}
		for n := range all {
			for i, left := 0, n; i < size; i, left = i+1, left/len(signs) {
				word[i] = signs[left%len(signs)]
			}
			f(word)
		}
	}
}

// TestScanOfAllShortTails: all short endings of a few kinds of bytes, behind nothing, a head and a record.
func TestScanOfAllShortTails(t *testing.T) {
	alone, _, _ := made(t, example)
	full, _, _ := made(t, example, fin("k", 1, 7))
	whys := map[api.Errno]int{}
	for _, log := range [][]byte{nil, alone, full} {
		words("\x52\x48\x00\x01\x80", 6, func(word []byte) { whys[checkScan(t, append(bytes.Clone(log), word...)).why]++ })
		words("\x52\xff", 11, func(word []byte) { whys[checkScan(t, append(bytes.Clone(log), word...)).why]++ })
	}
	for _, why := range []api.Errno{api.OK, api.ErrKind, api.ErrForm, api.ErrShort, api.ErrSum} {
		if whys[why] == 0 {
			t.Errorf("why %d never came: the test says little", why)
		}
	}
}

// TestScanOfAllShortBodies: all short bodies of a few kinds of bytes, with right sums: just those of updates stand.
func TestScanOfAllShortBodies(t *testing.T) {
	log, _, _ := made(t, example)
	stands := map[int]int{}
	for _, world := range []struct {
		head, signs string
		long        int
	}{
		{"", "\x00\x01\x02\x03", 7}, {"", "\x01\x02\x80", 9}, {"", "\x01\x02", 13}, {"", "\x01\x03", 13}, {"\x03\x01k", "\x00\x01\x02\x81", 6}, {"\x01\x01k", "\x00\x01\x03\x80", 6}, {"\x03\x02kk\x05\x02", "\x00\x01\x02\x03\x80", 5},
	} {
		words(world.signs, world.long, func(word []byte) {
			body := append([]byte(world.head), word...)
			if got := checkScan(t, with(log, body)); len(got.updates) == 1 {
				stands[got.updates[0].Kind]++
			}
		})
	}
	for kind := 1; kind <= 3; kind++ {
		if stands[kind] < 20 {
			t.Errorf("of the kind %d only %d stood: the test says little", kind, stands[kind])
		}
	}
}

// TestScanOfAllShortHeads: all short heads of a few kinds of bytes, with right sums.
func TestScanOfAllShortHeads(t *testing.T) {
	heads := 0
	for _, signs := range []string{"\x00\x01\x02\x48", "\x01\x80\x81"} {
		words(signs, 7, func(word []byte) {
			piece := append([]byte{0x48}, word...)
			if checkScan(t, append(piece, sumOf(piece)...)).e == api.OK {
				heads++
			}
		})
	}
	if heads < 10 {
		t.Errorf("only %d were heads: the test says little", heads)
	}
}

// TestScanOfWhatAWriterMade: P11.4 and P11.5: all of it, and every beginning.
func TestScanOfWhatAWriterMade(t *testing.T) {
	r := random()
	for round := range 60 {
		h, us := someHead(r), someUpdates(r, r.IntN(7))
		log, marks, w := made(t, h, us...)
		all := checkScan(t, log)
		if !sameFound(all, found{head: h, updates: own(us), marks: marks}) {
			t.Fatalf("P11.4: log %d: %d of %d updates, marks %v, want %v, why %d", round, len(all.updates), len(us), all.marks, marks, all.why)
		}
		_, v := told(t, log)
		checkSameNext(t, w, v)
		for n := range len(log) {
			checkBeginning(t, h, us, marks, log[:n])
		}
	}
}

func checkBeginning(t *testing.T, h api.Head, us []api.Update, marks []int, data []byte) {
	t.Helper()
	got, _ := told(t, data)
	if len(data) < marks[0] {
		if !sameFound(got, found{e: api.ErrTorn}) {
			t.Fatalf("P11.5: the first %d bytes, the head has %d: %v", len(data), marks[0], got)
		}
		return
	}
	whole := 0
	for whole < len(us) && marks[whole+1] <= len(data) {
		whole++
	}
	want := found{head: h, updates: own(us[:whole]), marks: marks[:whole+1]}
	if len(data) != marks[whole] {
		want.why = api.ErrShort
	}
	if !sameFound(got, want) {
		t.Fatalf("P11.5: the first %d bytes: %d updates, marks %v, why %d; want %d, why %d", len(data), len(got.updates), got.marks, got.why, whole, want.why)
	}
}

// TestTheWriterGoesOnBehindWhatStands: what is put by the writer of a torn log, behind the last record that stands, stands.
func TestTheWriterGoesOnBehindWhatStands(t *testing.T) {
	r := random()
	for range 200 {
		h, us := someHead(r), someUpdates(r, 1+r.IntN(6))
		log, marks, _ := made(t, h, us...)
		got, w := told(t, log[:marks[0]+r.IntN(len(log)-marks[0])])
		kept := slices.Clone(log[:got.marks[len(got.marks)-1]])
		more := someUpdates(r, 3)
		for _, u := range more {
			kept = checkPut(t, w, kept, u)
		}
		if again := checkScan(t, kept); again.why != api.OK || !slices.EqualFunc(again.updates, append(got.updates, own(more)...), sameUpdate) {
			t.Fatalf("P11.4: %d updates and 3 more: %d, why %d", len(got.updates), len(again.updates), again.why)
		}
	}
}

// TestSpoiltBytes: P11.6: each byte turned to each other one; of a body or a sum it is ErrSum, of the head ErrTorn.
func TestSpoiltBytes(t *testing.T) {
	r := random()
	for round := range 8 {
		h, us := someHead(r), []api.Update{someUpdate(r), fin("k", 1, 7), pre("k", int64(round+1), 2, "abc")}
		log, marks, _ := made(t, h, us...)
		for at := range log {
			for other := range 256 {
				if log[at] == byte(other) {
					continue
				}
				bad := slices.Clone(log)
				bad[at] = byte(other)
				checkSpoilt(t, h, us, marks, bad, at)
			}
		}
	}
}

func checkSpoilt(t *testing.T, h api.Head, us []api.Update, marks []int, bad []byte, at int) {
	t.Helper()
	got, _ := told(t, bad)
	if at < marks[0] {
		if !sameFound(got, found{e: api.ErrTorn}) {
			t.Fatalf("P11.6: byte %d of the head: %v", at, got)
		}
		return
	}
	ahead := 0
	for marks[ahead+1] <= at {
		ahead++
	}
	want := found{head: h, updates: own(us[:ahead]), marks: marks[:ahead+1], why: api.ErrSum}
	body := bodyBytes(us[ahead])
	switch from := marks[ahead+1] - 4 - len(body); {
	case at == marks[ahead]:
		want.why = api.ErrKind
	case at < from: // the body's length: the words say what it comes to
		want = scanByWords(bad)
	}
	if !sameFound(got, want) {
		t.Fatalf("P11.6: byte %d of %d: %d updates, marks %v, why %d; want %d, why %d", at, len(bad), len(got.updates), got.marks, got.why, ahead, want.why)
	}
}

// TestSpoiltLongRecords: the same at some places of the longest records.
func TestSpoiltLongRecords(t *testing.T) {
	r := random()
	big := pre(strings.Repeat("k", 64), greatest, 65535, string(noise(r, mostData)))
	log, marks, _ := made(t, example, fin("k", 1, 1), big, fin("k", 2, 1))
	for range 100 {
		at := marks[1] + 4 + r.IntN(marks[2]-marks[1]-4)
		bad := slices.Clone(log)
		bad[at] ^= byte(1 + r.IntN(255))
		checkSpoilt(t, example, []api.Update{fin("k", 1, 1), big, fin("k", 2, 1)}, marks, bad, at)
	}
}

// TestPiecesThatDontBelong: a record of another log, one of this log a second time, one left out: just those ahead of the first that doesn't belong stand. (A sum could be right by chance; of these none is.)
func TestPiecesThatDontBelong(t *testing.T) {
	r := random()
	for range 3000 {
		us, others := someUpdates(r, 2+r.IntN(4)), someUpdates(r, 2+r.IntN(4))
		log, marks, _ := made(t, someHead(r), us...)
		other, ends, _ := made(t, someHead(r), others...)
		i, j, n := r.IntN(len(us)), r.IntN(len(us)), r.IntN(len(others))
		ahead, behind := log[:marks[i]], log[marks[i]:]
		var bad []byte
		stand, why := i, api.ErrSum
		switch r.IntN(3) {
		case 0:
			bad = slices.Concat(ahead, other[ends[n]:ends[n+1]], behind)
		case 1:
			bad = slices.Concat(ahead, log[marks[j]:marks[j+1]], behind)
			if i == j { // the first of the two belongs there
				stand++
			}
		case 2:
			bad = slices.Concat(ahead, log[marks[i+1]:])
			if i == len(us)-1 {
				why = api.OK
			}
		}
		if got := checkScan(t, bad); len(got.updates) != stand || got.why != why {
			t.Fatalf("P11.3: with a piece that doesn't belong behind %d records: %d stand, why %d", i, len(got.updates), got.why)
		}
	}
}

// changed: the bytes with a few of them turned, put in or taken out.
func changed(r *rand.Rand, data []byte) []byte {
	data = bytes.Clone(data)
	for range 1 + r.IntN(2) {
		i := r.IntN(len(data))
		switch r.IntN(4) {
		case 0:
			data[i] = byte(r.IntN(256))
		case 1:
			data[i] ^= 1 << r.IntN(8)
		case 2:
			data = slices.Insert(data, i, byte(r.IntN(256)))
		case 3:
			if len(data) > 1 {
				data = slices.Delete(data, i, i+1)
			}
		}
	}
	return data
}

// TestScanOfNearlyBodies: bodies of updates with little changes and right sums.
func TestScanOfNearlyBodies(t *testing.T) {
	r := random()
	whys := map[api.Errno]int{}
	edges := edgeUpdates()
	for range 20000 {
		u := someUpdate(r)
		if r.IntN(2) == 0 {
			u = edges[r.IntN(len(edges))]
		}
		log := headBytes(example)
		if r.IntN(2) == 0 {
			log = with(log, bodyBytes(fin("k", 1, 1)))
		}
		data := with(log, changed(r, bodyBytes(u)))
		if r.IntN(3) == 0 {
			data = with(data, bodyBytes(someUpdate(r)))
		}
		whys[checkScan(t, data).why]++
	}
	if whys[api.OK] < 1000 || whys[api.ErrForm] < 1000 {
		t.Errorf("the test says little: %v", whys)
	}
}

// TestScanOfNearlyLogs: whole logs with little changes, whatever becomes of their sums.
func TestScanOfNearlyLogs(t *testing.T) {
	r := random()
	for range 5000 {
		log, _, _ := made(t, someHead(r), someUpdates(r, r.IntN(4))...)
		checkScan(t, changed(r, log))
	}
	for range 2000 {
		checkScan(t, noise(r, r.IntN(60)))
	}
}

// TestLongLogs: many records, and long ones.
func TestLongLogs(t *testing.T) {
	r := random()
	us := someUpdates(r, 20000)
	log, marks, _ := made(t, example, us...)
	if got := checkScan(t, log); !sameFound(got, found{head: example, updates: own(us), marks: marks}) {
		t.Errorf("P11.4: a log of %d records: %d updates, why %d", len(us), len(got.updates), got.why)
	}
	us = nil
	for n := range 20 {
		us = append(us, pre("k", int64(n+1), 1, string(noise(r, mostData-n%3))), api.Update{Kind: api.UEntry, Key: strings.Repeat("k", 64), Entry: api.Entry{Tag: api.Tag{Count: greatest, Client: 65535}, Fin: true, Has: true, Data: noise(r, mostData-n%2)}})
	}
	log, marks, _ = made(t, example, us...)
	if got := checkScan(t, log); !sameFound(got, found{head: example, updates: us, marks: marks}) {
		t.Errorf("P11.4: a log of %d bytes: %d updates, why %d", len(log), len(got.updates), got.why)
	}
}
