package order_test

import (
	"math"
	"testing"

	"sherd/api"
)

func TestOrderByTags(t *testing.T) {
	tags(t, list(put("a", 0, 1, tg(2, 1)), put("b", 2, 3, tg(1, 2)), put("c", 4, 5, tg(1, 1)), put("d", 6, 7, tg(10, 1))), 2, 1, 0, 3) // by counter, then by client
	tags(t, list(put("a", 0, 1, tg(1, 65535)), put("b", 0, 1, tg(2, 1)), put("c", 0, 1, tg(api.MaxCount, 65535)), put("d", 0, 1, tg(api.MaxCount, 1))), 0, 1, 3, 2)
	// Gets stand behind their Put, wherever they were begun, and the others do not come between.
	calls := list(get("b", 0, 1, tg(2, 1)), get("a", 0, 1, tg(1, 1)), put("b", 5, 6, tg(2, 1)), put("a", 5, 6, tg(1, 1)), none(9, 10), get("a", 7, 8, tg(1, 1)))
	tags(t, calls, 4, 3, 1, 5, 2, 0)
	// The values say nothing: that is Check's to look at.
	tags(t, list(put("a", 0, 1, tg(1, 1)), get("b", 2, 3, tg(1, 1))), 0, 1)
	tags(t, list(get("b", 0, 1, tg(1, 1)), put("a", 2, 3, tg(1, 1))), 1, 0)
}

// TestGetsBesideOneAnother: by From, of one From by number, whatever their To.
func TestGetsBesideOneAnother(t *testing.T) {
	x := tg(1, 1)
	tags(t, list(none(8, 9), none(2, 9), none(2, 3), none(0, 1), none(8, 20)), 3, 1, 2, 0, 4)
	tags(t, list(get("a", 8, 9, x), get("a", 2, 9, x), get("a", 2, 3, x), get("a", 0, 1, x), get("a", 8, 20, x), put("a", 8, 9, x)), 5, 3, 1, 2, 0, 4)
	tags(t, list(get("a", math.MaxInt-1, math.MaxInt, x), get("a", 0, 1, x), put("a", 8, 9, x)), 2, 1, 0)
	marked := none(7, 8) // a Get that is ErrAbsent stands first, whatever tag it bears
	marked.Tag = tg(9, 9)
	odd := none(5, 6)
	odd.Tag = tg(-3, 0)
	tags(t, list(put("a", 0, 1, x), marked, odd, none(6, 7), get("a", 0, 1, x)), 2, 3, 1, 0, 4)
	tags(t, list(marked), 0)
}

func TestWhoHasNoPart(t *testing.T) {
	x := tg(1, 1)
	calls := list(get("a", 0, -1, tg(7, 7)), ended(get("a", 0, 1, tg(8, 8)), api.ErrGone), ended(get("a", 0, 1, tg(0, 0)), api.ErrPad), none(0, -1), ended(get("a", 0, 1, tg(-1, 0)), api.ErrFull))
	tags(t, calls)
	tags(t, append(calls, put("a", 2, 3, x)), 5)
	// What such a Get has read is not read: the open Put with its tag is not taken, and no other has it.
	calls = list(open("a", 7, 0, tg(7, 7)), open("b", 8, 0, tg(0, 0)), get("a", 1, -1, tg(7, 7)), ended(get("b", 1, 2, tg(8, 8)), api.ErrGone), put("c", 3, 4, tg(9, 9)))
	tags(t, calls, 4)
}

func TestOpenPutsWithATag(t *testing.T) {
	x := tg(3, 4)
	gone := ended(open("a", 4, 0, x), api.ErrGone)
	for _, p := range list(open("a", 4, 0, x), gone, open("a", 9, 0, x), open("a", -1, 0, x)) { // whoever is said to have put it
		tags(t, list(p))
		tags(t, list(p, none(5, 6)), 1)
		tags(t, list(p, get("a", 1, 2, x)), 0, 1)
		tags(t, list(get("a", 1, 2, x), put("b", 0, 1, tg(3, 5)), p, put("c", 0, 1, tg(3, 3))), 3, 2, 0, 1)
		noTags(t, list(p, get("a", 1, 2, tg(3, 5))), api.ErrOrder)
		noTags(t, list(p, get("a", 1, 2, tg(4, 4))), api.ErrOrder) // it has another one
	}
	// It has its own tag, so one without stays silent.
	tags(t, list(gone, open("b", 4, 2, tg(0, 0)), get("a", 1, 2, x)), 0, 2)
	tags(t, list(open("b", 4, 2, tg(0, 0)), put("a", 0, 1, x), get("a", 1, 2, x)), 1, 2)
	tags(t, list(gone, open("b", 4, 2, tg(0, 0)), get("b", 3, 4, tg(4, 4)), get("a", 1, 2, x)), 0, 3, 1, 2)
}

func TestOpenPutsWithoutATag(t *testing.T) {
	silent := open("a", 4, 0, tg(0, 0))
	x, y := tg(3, 4), tg(5, 4)
	tags(t, list(silent))
	tags(t, list(silent, none(1, 2)), 1)
	tags(t, list(silent, get("a", 1, 2, x), get("a", 0, 2, x)), 0, 2, 1)
	tags(t, list(get("a", 1, 2, x), silent), 1, 0)
	tags(t, list(get("a", 1, 2, x), silent, put("b", 3, 4, tg(3, 3)), put("c", 3, 4, tg(3, 5))), 2, 1, 0, 3)
	// Of several of one client the last one by its number, whenever it was begun.
	early, late := open("a", 4, 9, tg(0, 0)), open("b", 4, 0, tg(0, 0))
	tags(t, list(early, late, get("b", 10, 11, x)), 1, 2)
	tags(t, list(late, early, get("b", 10, 11, x)), 1, 2)
	tags(t, list(early, get("b", 10, 11, x), late, ended(open("c", 4, 12, tg(9, 4)), api.ErrGone)), 2, 1)
	tags(t, list(late, ended(early, api.ErrFull), get("b", 10, 11, x), put("c", 5, 6, tg(1, 4))), 3, 1, 2)
	// Each client's for itself.
	tags(t, list(open("a", 4, 0, tg(0, 0)), open("b", 5, 0, tg(0, 0)), get("b", 1, 2, tg(3, 5)), get("a", 1, 2, tg(4, 4)), open("c", 6, 0, tg(0, 0))), 1, 2, 0, 3)
	// Two tags for one: neither the one ahead of it nor anybody else has the second.
	noTags(t, list(silent, get("a", 1, 2, x), get("a", 3, 4, y)), api.ErrOrder)
	noTags(t, list(silent, silent, get("a", 1, 2, x), get("a", 3, 4, y)), api.ErrOrder)
	noTags(t, list(silent, get("a", 1, 2, y), silent, open("b", 5, 0, tg(0, 0)), get("a", 3, 4, x)), api.ErrOrder)
	// Nobody has it.
	noTags(t, list(silent, get("a", 1, 2, tg(3, 5))), api.ErrOrder)
	noTags(t, list(get("a", 1, 2, x)), api.ErrOrder)
	noTags(t, list(get("a", 1, 2, x), put("a", 0, 1, y)), api.ErrOrder)
	noTags(t, list(none(1, 2), get("a", 1, 2, x)), api.ErrOrder)
	returned := put("a", 0, 1, y) // one that returned has its own alone
	returned.Client = 4
	noTags(t, list(returned, get("a", 1, 2, x)), api.ErrOrder)
	noTags(t, list(get("a", 0, 9, tg(7, 7)), get("a", 1, 2, x)), api.ErrOrder) // nor has a Get one to give
}

// improper is tags that may not be a Put's, of several clients.
func improper() []api.Tag {
	return []api.Tag{{}, tg(0, 1), tg(1, 0), tg(-1, 1), tg(1, -1), tg(1, 65536), tg(api.MaxCount+1, 1), tg(math.MaxInt64, math.MaxInt), tg(math.MinInt64, math.MinInt), tg(0, 65535), tg(api.MaxCount, 65536)}
}

func TestTagsThatMayNotBe(t *testing.T) {
	x := tg(1, 1)
	for _, bad := range improper() {
		noTags(t, list(put("a", 0, 1, bad)), api.ErrOrder)
		noTags(t, list(put("a", 0, 1, x), put("b", 0, 1, bad), none(0, 1)), api.ErrOrder)
		noTags(t, list(put("a", 0, 1, bad), get("a", 2, 3, bad)), api.ErrOrder)
		noTags(t, list(get("a", 2, 3, bad)), api.ErrOrder)
		noTags(t, list(put("b", 0, 1, x), open("a", bad.Client, 0, bad), get("a", 2, 3, bad)), api.ErrOrder)
		noTags(t, list(open("a", bad.Client, 0, tg(0, 0)), get("a", 2, 3, bad)), api.ErrOrder)
		tags(t, list(open("a", 1, 0, bad), put("b", 0, 1, x)), 1) // what is not taken is not looked at
		tags(t, list(put("b", 0, 1, x), ended(open("a", bad.Client, 0, bad), api.ErrGone), none(0, 1), get("", 0, -1, bad)), 2, 0)
	}
}

func TestOneTagTwice(t *testing.T) {
	x := tg(1, 1)
	noTags(t, list(put("a", 0, 1, x), put("a", 0, 1, x)), api.ErrOrder)
	noTags(t, list(put("a", 0, 1, x), put("c", 0, 1, tg(2, 1)), put("b", 2, 3, x)), api.ErrOrder)
	noTags(t, list(put("a", 0, 1, x), put("b", 2, 3, x), get("a", 2, 3, x)), api.ErrOrder)
	noTags(t, list(put("a", 0, 1, x), open("b", 1, 2, x), get("a", 2, 3, x)), api.ErrOrder)
	noTags(t, list(open("a", 1, 0, x), get("a", 2, 3, x), open("b", 1, 2, x)), api.ErrOrder)
	tags(t, list(put("a", 0, 1, x), open("b", 1, 2, x)), 0) // the open one was not read, so it is not taken
	tags(t, list(open("b", 1, 2, x), open("c", 1, 2, x), put("a", 0, 1, x)), 2)
	tags(t, list(open("b", 1, 2, x), open("c", 1, 2, x), get("b", 3, -1, x), ended(get("b", 3, 4, x), api.ErrSize)))
}
