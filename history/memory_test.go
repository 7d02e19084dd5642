package history_test

import (
	"bytes"
	"slices"
	"strings"
	"sync"
	"testing"

	"sherd/api"
	"sherd/history"
)

// roomy: a copy with spare room behind, which is filled.
func roomy(text string) []byte {
	all := append([]byte(text), bytes.Repeat([]byte{0xee}, 16)...)
	return all[:len(text)]
}

// overwrite writes all over a list, its spare room too.
func overwrite(b []byte) {
	b = b[:cap(b)]
	for i := range b {
		b[i] = 0xaa
	}
}

// mixed is a history with values of several lengths; it and its values have spare room that is filled.
func mixed() []api.Event {
	es := []api.Event{
		putBegun(1, 1, "k", ""), getBegun(2, 1, "k"), getBegun(3, 1, "k"), putDone(1, 1, "k", tg(1, 1)), got(2, 1, "k", tg(1, 1), "one"), got(3, 1, "k", tg(1, 1), "one"), putBegun(1, 2, "j", "one"), putGone(1, 2, "j", tg(2, 1)), putBegun(1, 3, "k", "a longer one, of more bytes"), getBegun(2, 2, "j"), getGone(2, 2, "j"), putBegun(3, 2, "i", "x"),
	}
	for i := range es {
		es[i].Value = roomy(string(es[i].Value))
	}
	es = append(es, putBegun(9, 9, "room", "room"), putBegun(9, 9, "room", "room"), putBegun(9, 9, "room", "room"))
	return es[:len(es)-3]
}

// deep is all of a list, and of its spare room, in memory of its own.
func deep(es []api.Event) []api.Event {
	all := slices.Clone(es[:cap(es)])
	for i := range all {
		all[i].Value = bytes.Clone(all[i].Value[:cap(all[i].Value)])
	}
	return all
}

func askAll(es []api.Event) {
	history.Check(es)
	history.Calls(es)
	s, _ := history.Text(es)
	history.Parse(s)
	for _, key := range append(history.Keys(es), "none") {
		history.Of(es, key)
	}
}

func TestWhatIsGivenIsNotChanged(t *testing.T) {
	bad := mixed()
	bad[5].Kind = 7
	for _, es := range [][]api.Event{mixed(), bad, mixed()[:3], mixed()[:0]} {
		before := deep(es)
		askAll(es)
		if !sameEvents(deep(es), before) {
			t.Errorf("P19.7: what was given was changed: %v", es)
		}
	}
}

// values is the lists of bytes of an answer.
func values(es []api.Event, calls []api.Call) [][]byte {
	var all [][]byte
	for _, e := range es {
		all = append(all, e.Value)
	}
	for _, c := range calls {
		all = append(all, c.Value)
	}
	return all
}

// parted looks whether no two lists share memory, by writing all over each.
func parted(t *testing.T, lists [][]byte) {
	t.Helper()
	want := make([][]byte, len(lists))
	for i, l := range lists {
		want[i] = bytes.Clone(l)
	}
	for i := range lists {
		overwrite(lists[i])
		for j := i + 1; j < len(lists); j++ {
			if !bytes.Equal(lists[j], want[j]) {
				t.Fatalf("P19.7: lists %d and %d share memory", i, j)
			}
		}
	}
}

func TestWhatIsToldIsNewMemory(t *testing.T) {
	es := mixed()
	before := deep(es)
	text, _ := history.Text(es)
	parsed, _, _ := history.Parse(text)
	again, _, _ := history.Parse(text)
	calls, _ := history.Calls(es)
	second, _ := history.Calls(es)
	k, k2, j := history.Of(es, "k"), history.Of(es, "k"), history.Of(es, "j")
	wantK, wantCalls := deep(history.Of(es, "k")), len(calls)
	parted(t, slices.Concat(values(parsed, calls), values(again, second), values(k, nil), values(k2, nil), values(j, nil), values(es[:0], nil)))
	if !sameEvents(deep(es), before) {
		t.Fatalf("P19.7: an overwriting of what was told changed what was given: %v", es)
	}
	for _, told := range [][]api.Event{parsed, k, j} { // the lists themselves
		told = told[:cap(told)]
		for i := range told {
			told[i] = api.Event{Kind: 99}
		}
	}
	clear(calls[:cap(calls)])
	keys := history.Keys(es)
	for i := range keys[:cap(keys)] {
		keys[:cap(keys)][i] = "spoilt"
	}
	if !sameEvents(deep(es), before) || len(again) != len(es) || again[0].Kind == 99 || len(second) != wantCalls || second[0].Client != 1 || k2[0].Kind == 99 {
		t.Errorf("P19.7: lists that were told share memory")
	}
	if of := history.Of(es, "k"); !sameEvents(deep(of)[:len(of)], wantK[:len(of)]) {
		t.Errorf("P19.7: Of tells %v, want %v", of, wantK)
	}
	if keys := history.Keys(es); strings.Join(keys, " ") != "i j k" {
		t.Errorf("P19.7: Keys tells %q", keys)
	}
}

func TestWhatIsGivenIsNotKept(t *testing.T) {
	es := mixed()
	text, _ := history.Text(es)
	calls, _ := history.Calls(es)
	want := callsTold(mixed())
	of, wantOf := history.Of(es, "k"), history.Of(mixed(), "k")
	for i := range es {
		overwrite(es[i].Value)
		es[i] = api.Event{}
	}
	if !sameCalls(calls, want) {
		t.Errorf("P19.7: calls changed with what was given: %v", calls)
	}
	if !sameEvents(of, wantOf) {
		t.Errorf("P19.7: events changed with what was given: %v", of)
	}
	if now, _ := history.Text(mixed()); now != text {
		t.Errorf("P19.7: Text is %q, was %q", now, text)
	}
}

// TestNothingIsKeptFromCallToCall: what was asked ahead plays no part.
func TestNothingIsKeptFromCallToCall(t *testing.T) {
	first := []api.Event{getBegun(1, 1, "k")}
	for range 3 {
		if at, e := history.Check(first); at != -1 || e != api.OK {
			t.Errorf("P3: Check is %d, %d", at, int(e))
		}
		if at, e := history.Check([]api.Event{getGone(1, 1, "k")}); at != 0 || e != api.ErrEvent {
			t.Errorf("P3: Check of an end alone is %d, %d", at, int(e))
		}
	}
}

func TestCallsBesideEachOther(t *testing.T) {
	es := mixed()
	text, _ := history.Text(es)
	want := callsTold(es)
	var group sync.WaitGroup
	fine := make([]bool, 16)
	for i := range fine {
		group.Go(func() {
			askAll(es)
			calls, e := history.Calls(es)
			parsed, _, f := history.Parse(text)
			fine[i] = sameCalls(calls, want) && sameEvents(parsed, es) && e == api.OK && f == api.OK
		})
	}
	group.Wait()
	if slices.Contains(fine, false) {
		t.Errorf("P3: beside others a history is told otherwise")
	}
}
