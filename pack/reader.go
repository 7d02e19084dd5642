package pack

import (
	"bytes"

	"sherd/api"
)

// Reader takes things off the front.
type Reader struct {
	firstError
	left  []byte
	taken int
}

// NewReader reads these bytes.
func NewReader(data []byte) *Reader { return &Reader{left: bytes.Clone(data)} }

// ahead is what is still to be taken. A nil reader has nothing: so its calls come to ErrShort, which fail lets go.
func (r *Reader) ahead() []byte {
	if r == nil {
		return nil
	}
	return r.left
}

// take takes the next bytes off; they are the reader's own memory still, so they are copied ahead of being handed out.
func (r *Reader) take(count int) []byte {
	front := r.left[:count]
	r.left = r.left[count:]
	r.taken += count
	return front
}

// fail notes an error. What is left is let go: no further call may take of it, and all that they come to is a later error.
func (r *Reader) fail(e api.Errno) {
	if r == nil {
		return
	}
	r.note(e)
	r.left = nil
}

// numberOf is the number at the front of data, and how many bytes it has there.
func numberOf(data []byte, most int64) (int64, int, api.Errno) {
	number := int64(0)
	for i, b := range data[:min(len(data), longest)] {
		number |= int64(b&^more) << (piece * i)
		if b&more != 0 {
			continue
		}
		if i > 0 && b == 0 {
			return 0, 0, api.ErrForm
		}
		if number > most {
			return 0, 0, api.ErrRange
		}
		return number, i + 1, api.OK
	}
	if len(data) >= longest {
		return 0, 0, api.ErrForm
	}
	return 0, 0, api.ErrShort
}

// Uint takes a number up to max.
func (r *Reader) Uint(max int64) int64 {
	number, size, e := numberOf(r.ahead(), max)
	if e != api.OK {
		r.fail(e)
		return 0
	}
	r.take(size)
	return number
}

// Byte takes a byte.
func (r *Reader) Byte() byte {
	if len(r.ahead()) == 0 {
		r.fail(api.ErrShort)
		return 0
	}
	return r.take(1)[0]
}

// Bool takes a yes or a no.
func (r *Reader) Bool() bool {
	left := r.ahead()
	if len(left) > 0 && left[0] != yes && left[0] != no {
		r.fail(api.ErrForm)
		return false
	}
	return r.Byte() == yes
}

// counted takes a length up to most and the bytes behind it, and is these.
func (r *Reader) counted(most int) []byte {
	left := r.ahead()
	length, size, e := numberOf(left, int64(most))
	if e == api.OK && length > int64(len(left)-size) {
		e = api.ErrShort
	}
	if e != api.OK {
		r.fail(e)
		return nil
	}
	return r.take(size + int(length))[size:]
}

// Bytes takes a length up to max and the bytes.
func (r *Reader) Bytes(max int) []byte { return bytes.Clone(r.counted(max)) }

// Text takes a length up to max and the text.
func (r *Reader) Text(max int) string { return string(r.counted(max)) }

// End looks that nothing is left.
func (r *Reader) End() {
	if len(r.ahead()) > 0 {
		r.fail(api.ErrRest)
	}
}

// Err is the first error.
func (r *Reader) Err() api.Errno {
	if r == nil {
		return api.OK
	}
	return r.err
}

// At is how many bytes were taken. A call that fails takes none, so behind an error it is where that call's thing begins.
func (r *Reader) At() int {
	if r == nil {
		return 0
	}
	return r.taken
}
