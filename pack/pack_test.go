package pack_test

import (
	"bytes"
	"math"
	"math/rand/v2"
	"strconv"
	"strings"

	"sherd/api"
	"sherd/pack"
)

func random() *rand.Rand { return rand.New(rand.NewPCG(7, 35)) }

func noise(r *rand.Rand, long int) []byte {
	all := make([]byte, long)
	for i := range all {
		all[i] = byte(r.IntN(256))
	}
	return all
}

// form: a number's bytes as the chapter's words tell them: its binary digits in pieces of seven, the lowest first.
func form(n int64) []byte {
	digits := strconv.FormatInt(n, 2)
	digits = strings.Repeat("0", (7-len(digits)%7)%7) + digits
	var all []byte
	for end := len(digits); end > 0; end -= 7 {
		mark := "1"
		if end == 7 {
			mark = "0"
		}
		b, _ := strconv.ParseUint(mark+digits[end-7:end], 2, 8)
		all = append(all, byte(b))
	}
	return all
}

// counted: bytes and a text as the chapter's words tell them.
func counted(b []byte) []byte { return append(form(int64(len(b))), b...) }

// edges: numbers about each power of two, and the least and the greatest.
func edges() []int64 {
	all := []int64{0, math.MaxInt64 - 1, math.MaxInt64}
	for i := range 63 {
		n := int64(1) << i
		all = append(all, n-1, n, n+1)
	}
	return all
}

// readNumber: what Uint answers, how many bytes it takes, and its error, word by word and in the chapter's order.
func readNumber(left []byte, most int64) (int64, int, api.Errno) {
	high := 0 // bytes with the highest bit at the front
	for high < len(left) && left[high] >= 128 {
		high++
	}
	if high >= 9 {
		return 0, 0, api.ErrForm
	}
	if high == len(left) {
		return 0, 0, api.ErrShort
	}
	digits := ""
	for _, b := range left[:high+1] {
		d := strconv.FormatInt(int64(b)%128+128, 2)
		digits = d[1:] + digits
	}
	if high > 0 && left[high] == 0 {
		return 0, 0, api.ErrForm
	}
	n, _ := strconv.ParseInt(digits, 2, 64)
	if n > most || most < 0 {
		return 0, 0, api.ErrRange
	}
	return n, high + 1, api.OK
}

// act: one call of a reader or a writer, with what it was given and what it answered.
type act struct {
	kind  int
	max   int64
	n     int64
	yes   bool
	bytes string
}

const (
	aUint = iota
	aByte
	aBool
	aBytes
	aText
	aEnd
	kinds
)

// model: a reader by the chapter's words.
type model struct {
	data []byte
	at   int
	err  api.Errno
}

func (m *model) do(kind int, most int64) act {
	a := act{kind: kind, max: most}
	if m.err != api.OK {
		return a
	}
	left, size := m.data[m.at:], 0
	switch kind {
	case aUint:
		a.n, size, m.err = readNumber(left, most)
	case aByte, aBool:
		if len(left) == 0 {
			m.err = api.ErrShort
		} else if kind == aBool && left[0] > 1 {
			m.err = api.ErrForm
		} else if size = 1; kind == aBool {
			a.yes = left[0] == 1
		} else {
			a.n = int64(left[0])
		}
	case aBytes, aText:
		var n int64
		n, size, m.err = readNumber(left, most)
		if m.err == api.OK && n > int64(len(left)-size) {
			size, m.err = 0, api.ErrShort
		} else if m.err == api.OK {
			a.bytes = string(left[size : size+int(n)])
			size += int(n)
		}
	case aEnd:
		if len(left) > 0 {
			m.err = api.ErrRest
		}
	}
	m.at += size
	return a
}

func read(r *pack.Reader, kind int, most int64) act {
	a := act{kind: kind, max: most}
	switch kind {
	case aUint:
		a.n = r.Uint(most)
	case aByte:
		a.n = int64(r.Byte())
	case aBool:
		a.yes = r.Bool()
	case aBytes:
		a.bytes = string(r.Bytes(int(most)))
	case aText:
		a.bytes = r.Text(int(most))
	case aEnd:
		r.End()
	}
	return a
}

func write(w *pack.Writer, a act) {
	switch a.kind {
	case aUint:
		w.Uint(a.n)
	case aByte:
		w.Byte(byte(a.n))
	case aBool:
		w.Bool(a.yes)
	case aBytes:
		w.Bytes([]byte(a.bytes))
	case aText:
		w.Text(a.bytes)
	}
}

// formOf: what an act puts, by the chapter's words.
func formOf(a act) []byte {
	switch a.kind {
	case aUint:
		return form(a.n)
	case aByte:
		return []byte{byte(a.n)}
	case aBool:
		if a.yes {
			return []byte{1}
		}
		return []byte{0}
	case aBytes, aText:
		return counted([]byte(a.bytes))
	}
	return nil
}

// someAct: one that a writer takes, its max just what it needs or somewhat more.
func someAct(r *rand.Rand) act {
	a := act{kind: r.IntN(aEnd)}
	switch a.kind {
	case aUint:
		a.n = r.Int64() >> r.IntN(63)
		a.max = a.n
		if r.IntN(2) == 0 {
			a.max = math.MaxInt64
		}
	case aByte:
		a.n = int64(r.IntN(256))
	case aBool:
		a.yes = r.IntN(2) == 0
	default:
		a.bytes = string(noise(r, r.IntN(4)*r.IntN(70)))
		a.max = int64(len(a.bytes) + r.IntN(3)*r.IntN(1000))
	}
	return a
}

// spare: a copy of b with room behind it that is filled with 0xee.
func spare(b []byte) []byte {
	all := append(bytes.Clone(b), bytes.Repeat([]byte{0xee}, 16)...)
	return all[:len(b)]
}

// whole: a list with all the room behind it.
func whole(b []byte) []byte { return b[:cap(b)] }
