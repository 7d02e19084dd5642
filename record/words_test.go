package record_test

import (
	"bytes"
	"hash/crc32"
	"math/rand/v2"
	"slices"
	"strconv"
	"strings"
	"testing"

	"sherd/api"
	"sherd/record"
)

const (
	greatest = 1<<62 - 1
	mostData = 65540 // bytes of a fragment
)

func random() *rand.Rand { return rand.New(rand.NewPCG(11, 66000)) }

func noise(r *rand.Rand, long int) []byte {
	all := make([]byte, long)
	for i := range all {
		all[i] = byte(r.IntN(256))
	}
	return all
}

// form: a number's bytes by chapter 7: its binary digits in pieces of seven, the lowest first.
func form(n int64) []byte {
	digits := strconv.FormatInt(n, 2)
	digits = strings.Repeat("0", (7-len(digits)%7)%7) + digits
	var all []byte
	for end := len(digits); end > 0; end -= 7 {
		b, _ := strconv.ParseUint(digits[end-7:end], 2, 8)
		if end > 7 {
			b += 128
		}
		all = append(all, byte(b))
	}
	return all
}

// sumOf: the sum of all the bytes, its lowest byte first, by the library.
func sumOf(parts ...[]byte) []byte {
	n := crc32.ChecksumIEEE(slices.Concat(parts...))
	return []byte{byte(n), byte(n >> 8), byte(n >> 16), byte(n >> 24)}
}

// headErrno: P11.1, word by word.
func headErrno(h api.Head) api.Errno {
	c := h.Config
	if c.K < 1 || c.N < c.K || c.N > 255 || c.Delta < 0 || c.Delta > greatest {
		return api.ErrConfig
	}
	if h.Server < 0 || h.Server > c.N-1 {
		return api.ErrNode
	}
	return api.OK
}

// headBytes: a head's form, word by word.
func headBytes(h api.Head) []byte {
	all := slices.Concat([]byte{0x48}, form(int64(h.Config.N)), form(int64(h.Config.K)), form(int64(h.Config.Delta)), form(int64(h.Server)))
	return slices.Concat(all, sumOf(all))
}

// ownForm: the update with what its kind doesn't use zero.
func ownForm(u api.Update) api.Update {
	own := api.Update{Kind: u.Kind, Key: u.Key, Entry: api.Entry{Tag: u.Entry.Tag}}
	if u.Kind == 1 || u.Kind == 3 && u.Entry.Has {
		own.Entry.Data = bytes.Clone(u.Entry.Data)
	}
	if u.Kind == 3 {
		own.Entry.Fin, own.Entry.Has = u.Entry.Fin, u.Entry.Has
	}
	return own
}

// updateErrno: P11.2's errors, each whether it applies, the first that does.
func updateErrno(u api.Update) api.Errno {
	t := u.Entry.Tag
	for _, c := range []struct {
		applies bool
		e       api.Errno
	}{
		{u.Kind != 1 && u.Kind != 2 && u.Kind != 3, api.ErrKind},
		{u.Key == "" || len(u.Key) > 64, api.ErrKey},
		{t.Count < 1 || t.Count > greatest || t.Client < 1 || t.Client > 65535, api.ErrTag},
		{u.Kind == 3 && !u.Entry.Fin && !u.Entry.Has, api.ErrForm},
		{len(ownForm(u).Entry.Data) > mostData, api.ErrValue},
	} {
		if c.applies {
			return c.e
		}
	}
	return api.OK
}

func yesNo(b bool) []byte {
	if b {
		return []byte{1}
	}
	return []byte{0}
}

// bodyBytes: a body's form, word by word.
func bodyBytes(u api.Update) []byte {
	all := slices.Concat([]byte{byte(u.Kind)}, form(int64(len(u.Key))), []byte(u.Key), form(u.Entry.Tag.Count), form(int64(u.Entry.Tag.Client)))
	data := slices.Concat(form(int64(len(u.Entry.Data))), u.Entry.Data)
	switch {
	case u.Kind == 1:
		return slices.Concat(all, data)
	case u.Kind == 3 && u.Entry.Has:
		return slices.Concat(all, yesNo(u.Entry.Fin), yesNo(true), data)
	case u.Kind == 3:
		return slices.Concat(all, yesNo(u.Entry.Fin), yesNo(false))
	}
	return all
}

// with: the log with one more record of this body, whatever it is, its sum right.
func with(log []byte, body []byte) []byte {
	piece := slices.Concat([]byte{0x52}, form(int64(len(body))), body)
	return slices.Concat(log, piece, sumOf(log[len(log)-4:], piece))
}

// logOf: a head and the records of these updates, and the marks.
func logOf(h api.Head, us ...api.Update) ([]byte, []int) {
	all := headBytes(h)
	marks := []int{len(all)}
	for _, u := range us {
		all = with(all, bodyBytes(u))
		marks = append(marks, len(all))
	}
	return all, marks
}

// lax takes numbers off the front in any form, and bytes as many as there are: what it makes of bytes is looked at afterwards.
type lax struct{ left []byte }

func (l *lax) number() int64 {
	n := int64(0)
	for i := 0; len(l.left) > 0; i++ {
		b := l.left[0]
		l.left = l.left[1:]
		n |= int64(b&0x7f) << (7 * min(i, 9))
		if b < 0x80 {
			break
		}
	}
	return n
}

func (l *lax) bytes() []byte {
	n := l.number()
	n = min(max(n, 0), int64(len(l.left)))
	front := l.left[:n]
	l.left = l.left[n:]
	return front
}

// headIn: the one head with whose bytes the data could begin, taken if it may be one and they do.
func headIn(data []byte) (api.Head, bool) {
	l := &lax{data[min(1, len(data)):]}
	h := api.Head{Config: api.Config{N: int(l.number()), K: int(l.number()), Delta: int(l.number())}, Server: int(l.number())}
	if headErrno(h) != api.OK || !bytes.HasPrefix(data, headBytes(h)) {
		return api.Head{}, false
	}
	return h, true
}

// updateIn: the one update whose body the bytes could be, taken if it may be one and its body is just this.
func updateIn(body []byte) (api.Update, bool) {
	if len(body) == 0 {
		return api.Update{}, false
	}
	l := &lax{body[1:]}
	u := api.Update{Kind: int(body[0]), Key: string(l.bytes())}
	u.Entry.Tag = api.Tag{Count: l.number(), Client: int(l.number())}
	if u.Kind == 3 {
		u.Entry.Fin, u.Entry.Has = l.number() == 1, l.number() == 1
	}
	if u.Kind == 1 || u.Kind == 3 && u.Entry.Has {
		u.Entry.Data = l.bytes()
	}
	if updateErrno(u) != api.OK || !bytes.Equal(bodyBytes(u), body) {
		return api.Update{}, false
	}
	return u, true
}

// lengthIn: the number at the front and how many bytes it has, or which of P11.3's reasons stands against it.
func lengthIn(rest []byte) (int, int, api.Errno) {
	last := slices.IndexFunc(rest, func(b byte) bool { return b < 0x80 })
	if last < 0 || last > 8 {
		if len(rest) >= 9 {
			return 0, 0, api.ErrForm
		}
		return 0, 0, api.ErrShort
	}
	l := &lax{rest[:last+1]}
	n := l.number()
	if !bytes.Equal(form(n), rest[:last+1]) || n > 66000 {
		return 0, 0, api.ErrForm
	}
	return int(n), last + 1, api.OK
}

// recordIn: the update of the record at the front, how long the record is, or the first reason of P11.3 why none stands there.
func recordIn(ahead []byte, rest []byte) (api.Update, int, api.Errno) {
	if rest[0] != 0x52 {
		return api.Update{}, 0, api.ErrKind
	}
	n, size, e := lengthIn(rest[1:])
	if e != api.OK {
		return api.Update{}, 0, e
	}
	to := 1 + size + n
	if len(rest) < to+4 {
		return api.Update{}, 0, api.ErrShort
	}
	if !bytes.Equal(sumOf(ahead, rest[:to]), rest[to:to+4]) {
		return api.Update{}, 0, api.ErrSum
	}
	u, ok := updateIn(rest[1+size : to])
	if !ok {
		return api.Update{}, 0, api.ErrForm
	}
	return u, to + 4, api.OK
}

// found: what Scan tells of a log, but its writer.
type found struct {
	head    api.Head
	updates []api.Update
	marks   []int
	why     api.Errno
	e       api.Errno
}

// scanByWords: P11.3, word by word.
func scanByWords(data []byte) found {
	h, ok := headIn(data)
	if !ok {
		return found{e: api.ErrTorn}
	}
	at := len(headBytes(h))
	all := found{head: h, marks: []int{at}}
	for at < len(data) {
		u, size, why := recordIn(data[at-4:at], data[at:])
		if why != api.OK {
			all.why = why
			return all
		}
		at += size
		all.updates = append(all.updates, u)
		all.marks = append(all.marks, at)
	}
	return all
}

func sameUpdate(a api.Update, b api.Update) bool {
	x, y := a.Entry, b.Entry
	return a.Kind == b.Kind && a.Key == b.Key && x.Tag == y.Tag && x.Fin == y.Fin && x.Has == y.Has && bytes.Equal(x.Data, y.Data)
}

func sameFound(a found, b found) bool {
	return a.head == b.head && a.why == b.why && a.e == b.e && slices.EqualFunc(a.updates, b.updates, sameUpdate) && slices.Equal(a.marks, b.marks)
}

func brief(b []byte) []byte { return b[:min(len(b), 120)] }

// told: what Scan tells now; that there is a writer just where there is a head, and that it has counted.
func told(t *testing.T, data []byte) (found, *record.Writer) {
	t.Helper()
	h, us, marks, why, w, e := record.Scan(data)
	if (w == nil) != (e != api.OK) || w.Count() != len(us) {
		t.Fatalf("P11.3: Scan of %x: a writer of %d records beside %d updates, %d", brief(data), w.Count(), len(us), e)
	}
	return found{h, us, marks, why, e}, w
}

// checkScan holds Scan of any bytes against the chapter's words, and what it found, made again, against the bytes.
func checkScan(t *testing.T, data []byte) found {
	t.Helper()
	want := scanByWords(data)
	got, w := told(t, data)
	if !sameFound(got, want) {
		t.Fatalf("P11.3: Scan of %d bytes, %x: head %v, %d updates, marks %v, why %d, %d; want head %v, %d updates, marks %v, why %d, %d", len(data), brief(data), got.head, len(got.updates), got.marks, got.why, got.e, want.head, len(want.updates), want.marks, want.why, want.e)
	}
	if got.e != api.OK {
		return got
	}
	v, again, e := record.New(got.head)
	if e != api.OK {
		t.Fatalf("P11.4: a head that Scan found may not be: %d", e)
	}
	for _, u := range got.updates {
		b, e := v.Put(u)
		if e != api.OK {
			t.Fatalf("P11.4: an update that Scan found may not be: %d", e)
		}
		again = append(again, b...)
	}
	if !bytes.Equal(again, data[:got.marks[len(got.marks)-1]]) {
		t.Fatalf("P11.4: %x made again is %x", brief(data), brief(again))
	}
	checkSameNext(t, w, v)
	return got
}

// checkSameNext: both writers go on with the same bytes.
func checkSameNext(t *testing.T, a *record.Writer, b *record.Writer) {
	t.Helper()
	for _, u := range []api.Update{{Kind: 2, Key: "next", Entry: api.Entry{Tag: api.Tag{Count: 77, Client: 3}}}, {Kind: 1, Key: "\x00", Entry: api.Entry{Tag: api.Tag{Count: 1, Client: 1}, Data: []byte("xyz")}}} {
		x, e := a.Put(u)
		y, f := b.Put(u)
		if e != api.OK || f != api.OK || len(x) == 0 || !bytes.Equal(x, y) || a.Count() != b.Count() {
			t.Fatalf("P11.4: two writers go on with %x, %d and %x, %d", x, e, y, f)
		}
	}
}

func someHead(r *rand.Rand) api.Head {
	n := 1 + r.IntN(255)>>r.IntN(8)
	return api.Head{Config: api.Config{N: n, K: 1 + r.IntN(n), Delta: r.IntN(greatest) >> r.IntN(62)}, Server: r.IntN(n)}
}

func someTag(r *rand.Rand) api.Tag {
	return api.Tag{Count: 1 + r.Int64N(greatest)>>r.IntN(62), Client: 1 + r.IntN(65535)>>r.IntN(16)}
}

// someUpdate: one that may be; what its kind doesn't use is as it comes.
func someUpdate(r *rand.Rand) api.Update {
	u := api.Update{Kind: 1 + r.IntN(3), Key: string(noise(r, 1+r.IntN(64)>>r.IntN(7)))}
	u.Entry = api.Entry{Tag: someTag(r), Fin: r.IntN(2) == 0, Has: r.IntN(2) == 0, Data: noise(r, r.IntN(5)*r.IntN(60))}
	if u.Kind == 3 && !u.Entry.Fin {
		u.Entry.Has = true
	}
	return u
}

func someUpdates(r *rand.Rand, count int) []api.Update {
	var all []api.Update
	for range count {
		all = append(all, someUpdate(r))
	}
	return all
}

// edgeUpdates: of each kind the least and the greatest that may be, and some between.
func edgeUpdates() []api.Update {
	low, high := api.Tag{Count: 1, Client: 1}, api.Tag{Count: greatest, Client: 65535}
	var all []api.Update
	for _, e := range []api.Entry{
		{Tag: low}, {Tag: high}, {Tag: api.Tag{Count: 127, Client: 128}}, {Tag: api.Tag{Count: 128, Client: 127}},
		{Tag: low, Data: []byte{0}}, {Tag: high, Data: make([]byte, 127)}, {Tag: low, Data: bytes.Repeat([]byte{0xff}, 128)},
	} {
		for _, key := range []string{"k", "\x00", "\xff\x80", strings.Repeat("k", 63), strings.Repeat("\x00", 64)} {
			all = append(all, api.Update{Kind: 1, Key: key, Entry: e}, api.Update{Kind: 2, Key: key, Entry: e})
			for _, x := range [][2]bool{{true, false}, {false, true}, {true, true}} {
				e.Fin, e.Has = x[0], x[1]
				all = append(all, api.Update{Kind: 3, Key: key, Entry: e})
			}
			e.Fin, e.Has = false, false
		}
	}
	return all
}

// edgeHeads: the least and the greatest that may be, and some between.
func edgeHeads() []api.Head {
	var all []api.Head
	for _, c := range []api.Config{{N: 1, K: 1}, {N: 1, K: 1, Delta: greatest}, {N: 127, K: 127, Delta: 127}, {N: 128, K: 128, Delta: 128}, {N: 255, K: 1}, {N: 255, K: 255, Delta: greatest}, {N: 5, K: 2, Delta: 1}} {
		for _, server := range []int{0, c.N / 2, c.N - 1} {
			all = append(all, api.Head{Config: c, Server: server})
		}
	}
	return all
}
