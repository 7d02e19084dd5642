package pack

import (
	"bytes"

	"sherd/api"
)

// Writer puts things behind one another.
type Writer struct {
	firstError
	data []byte
}

// NewWriter is an empty one.
func NewWriter() *Writer { return &Writer{} }

// stopped says that nothing more is put.
func (w *Writer) stopped() bool { return w == nil || w.err != api.OK }

// Uint adds a number of 0 and above.
func (w *Writer) Uint(n int64) {
	if w.stopped() {
		return
	}
	if n < 0 {
		w.note(api.ErrRange)
		w.data = nil // no call tells it any more
		return
	}
	for ; n >= more; n >>= piece {
		w.data = append(w.data, byte(n)|more)
	}
	w.data = append(w.data, byte(n))
}

// Byte adds a byte.
func (w *Writer) Byte(b byte) {
	if w.stopped() {
		return
	}
	w.data = append(w.data, b)
}

// Bool adds a yes or a no.
func (w *Writer) Bool(b bool) {
	if b {
		w.Byte(yes)
	} else {
		w.Byte(no)
	}
}

// Bytes adds a length and the bytes.
func (w *Writer) Bytes(b []byte) {
	if w.stopped() {
		return
	}
	w.Uint(int64(len(b)))
	w.data = append(w.data, b...)
}

// Text adds a length and the text's bytes.
func (w *Writer) Text(s string) {
	if w.stopped() {
		return
	}
	w.Uint(int64(len(s)))
	w.data = append(w.data, s...)
}

// Err is the first error.
func (w *Writer) Err() api.Errno {
	if w == nil {
		return api.OK
	}
	return w.err
}

// Data is all that was added.
func (w *Writer) Data() []byte {
	if w == nil {
		return nil
	}
	return bytes.Clone(w.data)
}
