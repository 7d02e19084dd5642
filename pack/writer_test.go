package pack_test

import (
	"bytes"
	"encoding/hex"
	"math"
	"strings"
	"testing"

	"sherd/api"
	"sherd/pack"
)

func TestNumberExamples(t *testing.T) {
	for _, c := range []struct {
		n    int64
		want string
	}{
		{0, "00"}, {1, "01"}, {127, "7f"}, {128, "8001"}, {129, "8101"}, {255, "ff01"}, {300, "ac02"},
		{16383, "ff7f"}, {16384, "808001"}, {1<<56 - 1, "ffffffffffffff7f"}, {1 << 56, "808080808080808001"},
		{1<<62 - 1, "ffffffffffffffff3f"}, {1 << 62, "808080808080808040"}, {math.MaxInt64, "ffffffffffffffff7f"},
	} {
		w := pack.NewWriter()
		w.Uint(c.n)
		if got := hex.EncodeToString(w.Data()); got != c.want || w.Err() != api.OK {
			t.Errorf("P7.1: Uint(%d) is %s, %d, want %s", c.n, got, w.Err(), c.want)
		}
	}
}

func TestNumbersByWords(t *testing.T) {
	check := func(n int64) {
		want := form(n)
		w := pack.NewWriter()
		w.Uint(n)
		if got := w.Data(); !bytes.Equal(got, want) || w.Err() != api.OK {
			t.Fatalf("P7.1: Uint(%d) is %x, %d, want %x", n, got, w.Err(), want)
		}
		if size, e := pack.Size(n); size != len(want) || e != api.OK {
			t.Fatalf("P7.2: Size(%d) is %d, %d, want %d", n, size, e, len(want))
		}
	}
	for n := range int64(70000) {
		check(n)
	}
	for _, n := range edges() {
		check(n)
	}
	r := random()
	for range 20000 {
		check(r.Int64() >> r.IntN(63))
	}
}

func TestSize(t *testing.T) {
	for _, c := range []struct {
		n    int64
		want int
		e    api.Errno
	}{
		{0, 1, api.OK}, {1, 1, api.OK}, {127, 1, api.OK}, {128, 2, api.OK}, {16383, 2, api.OK}, {16384, 3, api.OK},
		{1<<56 - 1, 8, api.OK}, {1 << 56, 9, api.OK}, {1<<62 - 1, 9, api.OK}, {1 << 62, 9, api.OK}, {math.MaxInt64, 9, api.OK},
		{-1, 0, api.ErrRange}, {-128, 0, api.ErrRange}, {math.MinInt64, 0, api.ErrRange}, {math.MinInt64 + 1, 0, api.ErrRange},
	} {
		if got, e := pack.Size(c.n); got != c.want || e != c.e {
			t.Errorf("P7.2: Size(%d) is %d, %d, want %d, %d", c.n, got, e, c.want, c.e)
		}
	}
}

func TestOneOfEach(t *testing.T) {
	for name, c := range map[string]struct {
		put  func(w *pack.Writer)
		want string
	}{
		"nothing":          {func(w *pack.Writer) {}, ""},
		"Byte(0)":          {func(w *pack.Writer) { w.Byte(0) }, "00"},
		"Byte(128)":        {func(w *pack.Writer) { w.Byte(128) }, "80"},
		"Byte(255)":        {func(w *pack.Writer) { w.Byte(255) }, "ff"},
		"Bool(true)":       {func(w *pack.Writer) { w.Bool(true) }, "01"},
		"Bool(false)":      {func(w *pack.Writer) { w.Bool(false) }, "00"},
		"Bytes(nil)":       {func(w *pack.Writer) { w.Bytes(nil) }, "00"},
		"Bytes of nothing": {func(w *pack.Writer) { w.Bytes([]byte{}) }, "00"},
		"Bytes":            {func(w *pack.Writer) { w.Bytes([]byte{0, 255}) }, "0200ff"},
		"Text of nothing":  {func(w *pack.Writer) { w.Text("") }, "00"},
		"Text":             {func(w *pack.Writer) { w.Text("ab") }, "026162"},
		"Text of no runes": {func(w *pack.Writer) { w.Text("\xff\x00\xc3") }, "03ff00c3"},
		"all behind one another": {func(w *pack.Writer) {
			w.Text("ab")
			w.Uint(300)
			w.Bytes([]byte{9})
			w.Bool(true)
			w.Byte(0xfe)
			w.Bool(false)
			w.Uint(0)
		}, "026162ac02010901fe0000"},
	} {
		w := pack.NewWriter()
		c.put(w)
		if got := hex.EncodeToString(w.Data()); got != c.want || w.Err() != api.OK {
			t.Errorf("P7.1: %s is %s, %d, want %s", name, got, w.Err(), c.want)
		}
	}
}

func TestBytesAndTextsOfAllLengths(t *testing.T) {
	r := random()
	for _, long := range []int{0, 1, 2, 126, 127, 128, 129, 255, 256, 16383, 16384, 16385, 65536, 66000, 300000} {
		b := noise(r, long)
		w, v := pack.NewWriter(), pack.NewWriter()
		w.Bytes(b)
		v.Text(string(b))
		want := counted(b)
		if !bytes.Equal(w.Data(), want) || w.Err() != api.OK {
			t.Errorf("P7.1: Bytes of %d bytes: not their number and they themselves, or %d", long, w.Err())
		}
		if !bytes.Equal(v.Data(), want) || v.Err() != api.OK {
			t.Errorf("P7.1: Text of %d bytes: not their number and they themselves, or %d", long, v.Err())
		}
	}
}

func TestWriterHasNoBound(t *testing.T) {
	w := pack.NewWriter()
	text := strings.Repeat("x", 1<<16)
	for range 64 {
		w.Text(text)
	}
	if got := len(w.Data()); got != 64*(3+1<<16) || w.Err() != api.OK {
		t.Errorf("P7.1: 64 long texts are %d bytes, %d", got, w.Err())
	}
}

func TestManyPutsByWords(t *testing.T) {
	r := random()
	for range 2000 {
		w := pack.NewWriter()
		var want []byte
		for range r.IntN(12) {
			a := someAct(r)
			write(w, a)
			want = append(want, formOf(a)...)
			if !bytes.Equal(w.Data(), want) || w.Err() != api.OK {
				t.Fatalf("P7.1: behind %+v: %x, %d, want %x", a, w.Data(), w.Err(), want)
			}
		}
	}
}

func TestWriterBehindAnError(t *testing.T) {
	for _, n := range []int64{-1, -2, -128, math.MinInt64} {
		for ahead := range 2 {
			w := pack.NewWriter()
			if ahead == 1 {
				w.Uint(5)
				w.Text("ab")
			}
			w.Uint(n)
			if w.Err() != api.ErrRange || len(w.Data()) != 0 {
				t.Errorf("P7.1: Uint(%d): %d, %x, want ErrRange and nothing", n, w.Err(), w.Data())
			}
			w.Uint(6)
			w.Uint(-1)
			w.Byte(7)
			w.Bool(true)
			w.Bytes([]byte{8})
			w.Text("c")
			if w.Err() != api.ErrRange || len(w.Data()) != 0 {
				t.Errorf("P7.1: behind Uint(%d): %d, %x, want ErrRange and nothing", n, w.Err(), w.Data())
			}
		}
	}
}

func TestWriterKeepsNothing(t *testing.T) {
	w := pack.NewWriter()
	b := spare([]byte{1, 2, 3})
	w.Bytes(b)
	if !bytes.Equal(whole(b)[:16], append([]byte{1, 2, 3}, bytes.Repeat([]byte{0xee}, 13)...)) {
		t.Errorf("P7.6: Bytes changed what it was given: %x", whole(b))
	}
	b[0] = 99
	data := w.Data()
	if !bytes.Equal(data, []byte{3, 1, 2, 3}) {
		t.Errorf("P7.6: Bytes kept what it was given: %x", data)
	}
	for i := range whole(data) {
		whole(data)[i] = 77
	}
	w.Byte(4)
	if got := w.Data(); !bytes.Equal(got, []byte{3, 1, 2, 3, 4}) {
		t.Errorf("P7.6: what Data answered is the writer's own memory: %x", got)
	}
	first, second := w.Data(), w.Data()
	w.Byte(5)
	second[0] = 1
	if !bytes.Equal(first, []byte{3, 1, 2, 3, 4}) {
		t.Errorf("P7.6: what Data answered changed with the writer: %x", first)
	}
}

func TestWritersAreTheirOwn(t *testing.T) {
	a, b := pack.NewWriter(), pack.NewWriter()
	a.Byte(1)
	b.Byte(2)
	a.Uint(-1)
	if a.Err() != api.ErrRange || b.Err() != api.OK || !bytes.Equal(b.Data(), []byte{2}) {
		t.Errorf("P5: one writer's error and bytes came to another: %d, %x", b.Err(), b.Data())
	}
}

func TestNilWriter(t *testing.T) {
	var w *pack.Writer
	w.Uint(1)
	w.Uint(-1)
	w.Byte(1)
	w.Bool(true)
	w.Bool(false)
	w.Bytes([]byte{1})
	w.Text("a")
	if w.Err() != api.OK || len(w.Data()) != 0 {
		t.Errorf("P7.6: a nil writer: %d, %x", w.Err(), w.Data())
	}
}
