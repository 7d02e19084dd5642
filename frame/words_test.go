package frame_test

import (
	"bytes"
	"math/rand/v2"
	"slices"
	"strconv"
	"strings"

	"sherd/api"
	"sherd/sum"
)

const (
	greatest = 1<<62 - 1
	longest  = 65540 // bytes of a fragment
)

func random() *rand.Rand { return rand.New(rand.NewPCG(10, 66000)) }

func noise(r *rand.Rand, long int) []byte {
	all := make([]byte, long)
	for i := range all {
		all[i] = byte(r.IntN(256))
	}
	return all
}

// needs: the chapter's table, word by word.
func needs(kind int) string {
	switch kind {
	case 1:
		return ""
	case 2:
		return "Top"
	case 3:
		return "Tag Data"
	case 4, 5, 6, 7:
		return "Tag"
	}
	return "Tag Top Has Data"
}

func needsData(m api.Message) bool {
	return m.Kind == 3 || m.Kind == 8 && m.Has
}

func mayBe(t api.Tag) bool {
	return t.Count >= 1 && t.Count <= greatest && t.Client >= 1 && t.Client <= 65535
}

// checkByWords: the chapter's six errors, each whether it applies, the first that does.
func checkByWords(m api.Message) api.Errno {
	if m.Kind < 1 || m.Kind > 8 {
		return api.ErrKind
	}
	tag, top := strings.Contains(needs(m.Kind), "Tag"), strings.Contains(needs(m.Kind), "Top")
	initial := api.Tag{}
	for _, c := range []struct {
		applies bool
		e       api.Errno
	}{
		{m.Client < 1 || m.Client > 65535, api.ErrRange},
		{m.Server < 0 || m.Server > 254, api.ErrRange},
		{m.Op < 1 || m.Op > greatest, api.ErrRange},
		{m.Key == "" || len(m.Key) > 64, api.ErrKey},
		{tag && !mayBe(m.Tag), api.ErrTag},
		{top && !mayBe(m.Top) && m.Top != initial, api.ErrTag},
		{needsData(m) && len(m.Data) > longest, api.ErrSize},
		{!tag && m.Tag != initial, api.ErrForm},
		{!top && m.Top != initial, api.ErrForm},
		{m.Kind != 8 && m.Has, api.ErrForm},
		{!needsData(m) && len(m.Data) != 0, api.ErrForm},
	} {
		if c.applies {
			return c.e
		}
	}
	return api.OK
}

// form: a number's bytes by chapter 7: its binary digits in pieces of seven, the lowest first.
func form(n int64) []byte {
	digits := strconv.FormatInt(n, 2)
	digits = strings.Repeat("0", (7-len(digits)%7)%7) + digits
	var all []byte
	for end := len(digits); end > 0; end -= 7 {
		b, _ := strconv.ParseUint(digits[end-7:end], 2, 8)
		if end > 7 {
			b += 128
		}
		all = append(all, byte(b))
	}
	return all
}

// summed: the bytes with their sum behind, the lowest byte first.
func summed(parts ...[]byte) []byte {
	body := slices.Concat(parts...)
	n := sum.Of(body)
	return append(body, byte(n), byte(n>>8), byte(n>>16), byte(n>>24))
}

// bodyByWords: a frame's bytes but its sum, by the chapter's words.
func bodyByWords(m api.Message) []byte {
	all := slices.Concat([]byte{byte(m.Kind)}, form(int64(m.Client)), form(int64(m.Server)), form(m.Op), form(int64(len(m.Key))), []byte(m.Key))
	for _, need := range strings.Fields(needs(m.Kind)) {
		switch {
		case need == "Tag":
			all = slices.Concat(all, form(m.Tag.Count), form(int64(m.Tag.Client)))
		case need == "Top":
			all = slices.Concat(all, form(m.Top.Count), form(int64(m.Top.Client)))
		case need == "Has" && m.Has:
			all = append(all, 1)
		case need == "Has":
			all = append(all, 0)
		case needsData(m):
			all = slices.Concat(all, form(int64(len(m.Data))), m.Data)
		}
	}
	return all
}

// lax takes numbers off the front in any form, and bytes as many as there are: what it makes of bytes is looked at afterwards.
type lax struct{ left []byte }

func (l *lax) number() int64 {
	n := int64(0)
	for i := 0; len(l.left) > 0; i++ {
		b := l.left[0]
		l.left = l.left[1:]
		n |= int64(b&0x7f) << (7 * min(i, 9))
		if b < 0x80 {
			break
		}
	}
	return n
}

func (l *lax) bytes() []byte {
	n := l.number()
	n = min(max(n, 0), int64(len(l.left)))
	front := l.left[:n]
	l.left = l.left[n:]
	return front
}

func (l *lax) tag() api.Tag { return api.Tag{Count: l.number(), Client: int(l.number())} }

// parsed: the one message whose frame the body could begin, taken if it may be one and its frame's body is just this.
func parsed(body []byte) (api.Message, bool) {
	l := &lax{body[1:]}
	m := api.Message{Kind: int(body[0])}
	m.Client, m.Server, m.Op, m.Key = int(l.number()), int(l.number()), l.number(), string(l.bytes())
	if m.Kind == 3 || m.Kind >= 4 {
		m.Tag = l.tag()
	}
	if m.Kind == 2 || m.Kind == 8 {
		m.Top = l.tag()
	}
	if m.Kind == 8 {
		m.Has = l.number() == 1
	}
	if needsData(m) {
		m.Data = l.bytes()
	}
	if checkByWords(m) != api.OK || !bytes.Equal(bodyByWords(m), body) {
		return api.Message{}, false
	}
	return m, true
}

// decodeByWords: the chapter's five errors, the first that applies.
func decodeByWords(data []byte) (api.Message, api.Errno) {
	if len(data) > 66000 {
		return api.Message{}, api.ErrLong
	}
	if len(data) < 5 {
		return api.Message{}, api.ErrShort
	}
	body := data[:len(data)-4]
	if !bytes.Equal(summed(body), data) {
		return api.Message{}, api.ErrSum
	}
	if body[0] < 1 || body[0] > 8 {
		return api.Message{}, api.ErrKind
	}
	m, ok := parsed(body)
	if !ok {
		return api.Message{}, api.ErrForm
	}
	return m, api.OK
}

func same(a api.Message, b api.Message) bool {
	return a.Kind == b.Kind && a.Client == b.Client && a.Server == b.Server && a.Op == b.Op && a.Key == b.Key && a.Tag == b.Tag && a.Top == b.Top && a.Has == b.Has && bytes.Equal(a.Data, b.Data)
}

// fits: the message without what its kind doesn't use, and with a tag that may be where one is used.
func fits(m api.Message) api.Message {
	if !strings.Contains(needs(m.Kind), "Tag") {
		m.Tag = api.Tag{}
	}
	if !strings.Contains(needs(m.Kind), "Top") {
		m.Top = api.Tag{}
	}
	m.Has = m.Has && m.Kind == 8
	if !needsData(m) {
		m.Data = nil
	}
	return m
}

func someTag(r *rand.Rand) api.Tag {
	return api.Tag{Count: 1 + r.Int64N(greatest)>>r.IntN(62), Client: 1 + r.IntN(65535)>>r.IntN(16)}
}

// someMessage: one that may be, of a kind; its numbers of all sizes.
func someMessage(r *rand.Rand, kind int) api.Message {
	m := api.Message{Kind: kind, Client: 1 + r.IntN(65535)>>r.IntN(16), Server: r.IntN(255), Op: 1 + r.Int64N(greatest)>>r.IntN(62), Key: string(noise(r, 1+r.IntN(64)))}
	m.Tag, m.Top, m.Has, m.Data = someTag(r), someTag(r), r.IntN(2) == 0, noise(r, r.IntN(5)*r.IntN(60))
	if r.IntN(4) == 0 {
		m.Top = api.Tag{}
	}
	return fits(m)
}

// edgeMessages: of each kind the least and the greatest that may be, and some between.
func edgeMessages() []api.Message {
	r := random()
	var all []api.Message
	low, high := api.Tag{Count: 1, Client: 1}, api.Tag{Count: greatest, Client: 65535}
	for kind := 1; kind <= 8; kind++ {
		for _, m := range []api.Message{
			{Client: 1, Op: 1, Key: "k", Tag: low},
			{Client: 1, Op: 1, Key: "\x00", Tag: low, Top: low, Has: true},
			{Client: 127, Server: 127, Op: 127, Key: strings.Repeat("\xff", 63), Tag: high, Has: true, Data: []byte{0}},
			{Client: 128, Server: 128, Op: 128, Key: "kk", Tag: low, Top: high, Data: []byte{1, 2, 3}},
			{Client: 65535, Server: 254, Op: greatest, Key: strings.Repeat("k", 64), Tag: high, Top: high, Has: true, Data: noise(r, 127)},
			{Client: 65535, Server: 254, Op: greatest, Key: strings.Repeat("\x00", 64), Tag: high, Top: low, Has: true, Data: make([]byte, 128)},
		} {
			m.Kind = kind
			all = append(all, fits(m))
		}
		for range 4 {
			all = append(all, someMessage(r, kind))
		}
	}
	return all
}

// greatMessages: those with the longest frames.
func greatMessages() []api.Message {
	r := random()
	high := api.Tag{Count: greatest, Client: 65535}
	var all []api.Message
	for _, kind := range []int{3, 8} {
		for _, long := range []int{16383, 16384, 65535, 65536, longest - 1, longest} {
			m := api.Message{Kind: kind, Client: 65535, Server: 254, Op: greatest, Key: strings.Repeat("k", 64), Tag: high, Top: high, Has: true, Data: noise(r, long)}
			all = append(all, fits(m))
		}
	}
	return all
}
