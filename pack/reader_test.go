package pack_test

import (
	"bytes"
	"encoding/hex"
	"math"
	"testing"

	"sherd/api"
	"sherd/pack"
)

func TestReadNumberExamples(t *testing.T) {
	for _, c := range []struct {
		data string
		max  int64
		n    int64
		at   int
		e    api.Errno
	}{
		{"8000", math.MaxInt64, 0, 0, api.ErrForm}, {"80", math.MaxInt64, 0, 0, api.ErrShort}, {"", math.MaxInt64, 0, 0, api.ErrShort},
		{"ffffffffffffffffff", math.MaxInt64, 0, 0, api.ErrForm}, {"ffffffffffffffff", math.MaxInt64, 0, 0, api.ErrShort},
		{"ffffffffffffffff00", math.MaxInt64, 0, 0, api.ErrForm}, {"ffffffffffffffff7f", math.MaxInt64, math.MaxInt64, 9, api.OK},
		{"05", 4, 0, 0, api.ErrRange}, {"05", 5, 5, 1, api.OK}, {"00", -1, 0, 0, api.ErrRange}, {"00", 0, 0, 1, api.OK},
		// the first that applies
		{"808080808080808080", -1, 0, 0, api.ErrForm}, {"80808080808080808000", 0, 0, 0, api.ErrForm}, {"80808080808080808001", math.MaxInt64, 0, 0, api.ErrForm},
		{"8080808080808080", -1, 0, 0, api.ErrShort}, {"", -1, 0, 0, api.ErrShort}, {"8000", -1, 0, 0, api.ErrForm}, {"8100", 0, 0, 0, api.ErrForm},
		{"808000", math.MaxInt64, 0, 0, api.ErrForm}, {"80800100", math.MaxInt64, 16384, 3, api.OK},
		{"ffffffffffffffff7f", math.MaxInt64 - 1, 0, 0, api.ErrRange}, {"ac02ff", 300, 300, 2, api.OK}, {"ac02ff", 299, 0, 0, api.ErrRange},
		{"01", math.MinInt64, 0, 0, api.ErrRange},
	} {
		data, _ := hex.DecodeString(c.data)
		r := pack.NewReader(data)
		if n := r.Uint(c.max); n != c.n || r.At() != c.at || r.Err() != c.e {
			t.Errorf("P7.3, P7.4: Uint(%d) of %s is %d, At %d, %d, want %d, %d, %d", c.max, c.data, n, r.At(), r.Err(), c.n, c.at, c.e)
		}
	}
}

func checkNumber(t *testing.T, data []byte, most int64) {
	t.Helper()
	n, at, e := readNumber(data, most)
	r := pack.NewReader(data)
	if got := r.Uint(most); got != n || r.At() != at || r.Err() != e {
		t.Fatalf("P7.3, P7.4: Uint(%d) of %x is %d, At %d, %d, want %d, %d, %d", most, data, got, r.At(), r.Err(), n, at, e)
	}
}

// TestReadAllShortNumbers: all of one and two bytes, all of up to ten bytes of a few kinds.
func TestReadAllShortNumbers(t *testing.T) {
	for i := range 65536 {
		data := []byte{byte(i), byte(i >> 8)}
		checkNumber(t, data, math.MaxInt64)
		checkNumber(t, data, 200)
		checkNumber(t, data[:1], 100)
	}
	few := []byte{0, 0x7f, 0x80, 0xff}
	for long := range 11 {
		data := make([]byte, long)
		for i := range 1 << (2 * long) {
			for j := range data {
				data[j] = few[i>>(2*j)&3]
			}
			checkNumber(t, data, math.MaxInt64)
		}
	}
}

func TestReadNumbersUpToMax(t *testing.T) {
	for _, n := range edges() {
		data := append(form(n), 1, 2, 3)
		for _, most := range []int64{n, max(n, 1) - 1, n - 1, math.MaxInt64, 0, -1, math.MinInt64} {
			checkNumber(t, data, most)
		}
		for cut := range data {
			checkNumber(t, data[:cut], math.MaxInt64)
		}
	}
}

func TestReadByteAndBool(t *testing.T) {
	for i := range 256 {
		r := pack.NewReader([]byte{byte(i), 7})
		if b := r.Byte(); b != byte(i) || r.At() != 1 || r.Err() != api.OK {
			t.Errorf("P7.3: Byte of %x is %x, At %d, %d", i, b, r.At(), r.Err())
		}
		r = pack.NewReader([]byte{byte(i), 7})
		at, e := 1, api.OK
		if i > 1 {
			at, e = 0, api.ErrForm
		}
		if b := r.Bool(); b != (i == 1) || r.At() != at || r.Err() != e {
			t.Errorf("P7.3, P7.4: Bool of %x is %v, At %d, %d, want At %d, %d", i, b, r.At(), r.Err(), at, e)
		}
	}
	r := pack.NewReader(nil)
	if b := r.Byte(); b != 0 || r.At() != 0 || r.Err() != api.ErrShort {
		t.Errorf("P7.3: Byte of nothing is %x, At %d, %d", b, r.At(), r.Err())
	}
	r = pack.NewReader([]byte{})
	if b := r.Bool(); b || r.At() != 0 || r.Err() != api.ErrShort {
		t.Errorf("P7.3: Bool of nothing is %v, At %d, %d", b, r.At(), r.Err())
	}
}

func TestReadBytesAndTexts(t *testing.T) {
	for _, c := range []struct {
		data string
		max  int
		want string
		at   int
		e    api.Errno
	}{
		{"\x02a", 9, "", 0, api.ErrShort}, {"\x02a", 1, "", 0, api.ErrRange}, {"\x02a", 2, "", 0, api.ErrShort},
		{"\x02ab", 2, "ab", 3, api.OK}, {"\x02abc", 2, "ab", 3, api.OK}, {"\x02ab", 1, "", 0, api.ErrRange}, {"\x02", 9, "", 0, api.ErrShort},
		{"", 9, "", 0, api.ErrShort}, {"", -1, "", 0, api.ErrShort}, {"\x80", 9, "", 0, api.ErrShort},
		{"\x00", 0, "", 1, api.OK}, {"\x00", -1, "", 0, api.ErrRange}, {"\x00", math.MinInt, "", 0, api.ErrRange}, {"\x00\x05", 9, "", 1, api.OK},
		{"\x82\x00ab", 9, "", 0, api.ErrForm}, {"\x82\x00ab", -1, "", 0, api.ErrForm},
		{"\xff\xff\xff\xff\xff\xff\xff\xff\x7f", math.MaxInt, "", 0, api.ErrShort}, {"\xff\xff\xff\xff\xff\xff\xff\xff\x7f", math.MaxInt - 1, "", 0, api.ErrRange},
		{"\xff\xff\xff\xff\xff\xff\xff\xff\x7fab", math.MaxInt, "", 0, api.ErrShort}, {"\xff\xff\xff\xff\xff\xff\xff\xff\xff\x01", math.MaxInt, "", 0, api.ErrForm},
		{"\x03\xff\x00\xc3", 3, "\xff\x00\xc3", 4, api.OK},
	} {
		r, s := pack.NewReader([]byte(c.data)), pack.NewReader([]byte(c.data))
		if got := r.Bytes(c.max); string(got) != c.want || r.At() != c.at || r.Err() != c.e {
			t.Errorf("P7.3, P7.4: Bytes(%d) of %x is %x, At %d, %d, want %x, %d, %d", c.max, c.data, got, r.At(), r.Err(), c.want, c.at, c.e)
		}
		if got := s.Text(c.max); got != c.want || s.At() != c.at || s.Err() != c.e {
			t.Errorf("P7.3, P7.4: Text(%d) of %x is %x, At %d, %d, want %x, %d, %d", c.max, c.data, got, s.At(), s.Err(), c.want, c.at, c.e)
		}
	}
}

func TestReadLongBytes(t *testing.T) {
	r := random()
	for _, long := range []int{127, 128, 16383, 16384, 65536} {
		b := noise(r, long)
		data := append(counted(b), 42)
		for _, kind := range []int{aBytes, aText} {
			rd := pack.NewReader(data)
			got := read(rd, kind, int64(long))
			if got.bytes != string(b) || rd.At() != len(data)-1 || rd.Byte() != 42 || rd.Err() != api.OK {
				t.Errorf("P7.3: %d bytes are not read as they stand: At %d, %d", long, rd.At(), rd.Err())
			}
			rd = pack.NewReader(data[:len(data)-2])
			if got := read(rd, kind, int64(long)); got.bytes != "" || rd.At() != 0 || rd.Err() != api.ErrShort {
				t.Errorf("P7.3: %d bytes but one: %d bytes, At %d, %d", long, len(got.bytes), rd.At(), rd.Err())
			}
		}
	}
}

func TestEnd(t *testing.T) {
	r := pack.NewReader([]byte{1, 7})
	if b := r.Byte(); b != 1 {
		t.Errorf("P7.3: Byte is %d", b)
	}
	r.End()
	if r.Err() != api.ErrRest || r.At() != 1 {
		t.Errorf("P7.3, P7.4: End ahead of a byte: %d, At %d", r.Err(), r.At())
	}
	if b := r.Byte(); b != 0 || r.Err() != api.ErrRest || r.At() != 1 {
		t.Errorf("P7.3: Byte behind ErrRest is %d, %d, At %d", b, r.Err(), r.At())
	}
	r = pack.NewReader([]byte{1})
	r.Byte()
	r.End()
	r.End()
	if r.Err() != api.OK || r.At() != 1 {
		t.Errorf("P7.3: End at the end: %d, At %d", r.Err(), r.At())
	}
	if r.Byte(); r.Err() != api.ErrShort || r.At() != 1 {
		t.Errorf("P7.3: Byte behind the end: %d, At %d", r.Err(), r.At())
	}
	r = pack.NewReader(nil)
	if r.End(); r.Err() != api.OK || r.At() != 0 {
		t.Errorf("P7.3: End of nothing: %d, At %d", r.Err(), r.At())
	}
}

// TestBehindEachError: every way to an error, and then every call.
func TestBehindEachError(t *testing.T) {
	for _, c := range []struct {
		data string
		kind int
		max  int64
		e    api.Errno
	}{
		{"\x80", aUint, 9, api.ErrShort}, {"\x80\x00\x01", aUint, 9, api.ErrForm}, {"\x05\x01\x01", aUint, 4, api.ErrRange},
		{"\xff\xff\xff\xff\xff\xff\xff\xff\xff\x01\x01", aUint, 9, api.ErrForm},
		{"", aByte, 0, api.ErrShort}, {"", aBool, 0, api.ErrShort}, {"\x02\x01", aBool, 0, api.ErrForm},
		{"\x03ab", aBytes, 9, api.ErrShort}, {"\x01\x01\x01", aBytes, 0, api.ErrRange}, {"\x81\x00\x01", aBytes, 9, api.ErrForm},
		{"\x03ab", aText, 9, api.ErrShort}, {"\x01\x01\x01", aText, 0, api.ErrRange}, {"\x81\x00\x01", aText, 9, api.ErrForm},
		{"\x01\x01", aEnd, 0, api.ErrRest},
	} {
		for further := range kinds {
			r := pack.NewReader([]byte("\x01" + c.data))
			r.Byte()
			if a := read(r, c.kind, c.max); a != (act{kind: c.kind, max: c.max}) || r.Err() != c.e || r.At() != 1 {
				t.Errorf("P7.3, P7.4: call %d of %x: %+v, %d, At %d, want %d", c.kind, c.data, a, r.Err(), r.At(), c.e)
			}
			for range 3 {
				if a := read(r, further, 9); a != (act{kind: further, max: 9}) || r.Err() != c.e || r.At() != 1 {
					t.Errorf("P7.3: call %d behind error %d of %x: %+v, %d, At %d", further, c.e, c.data, a, r.Err(), r.At())
				}
			}
		}
	}
}

func TestReaderByWords(t *testing.T) {
	r := random()
	for range 60000 {
		var data []byte
		for range r.IntN(5) {
			data = append(data, formOf(someAct(r))...)
		}
		if len(data) > 0 && r.IntN(3) == 0 {
			data[r.IntN(len(data))] ^= 1 << r.IntN(8)
			data = data[:len(data)-r.IntN(2)]
		}
		rd, m := pack.NewReader(data), &model{data: data}
		for range 8 {
			kind, most := r.IntN(kinds), int64(r.IntN(400)-2)
			if r.IntN(3) == 0 {
				most = math.MaxInt64
			}
			want := m.do(kind, most)
			if got := read(rd, kind, most); got != want || rd.Err() != m.err || rd.At() != m.at {
				t.Fatalf("P7.3, P7.4: of %x: %+v, %d, At %d, want %+v, %d, At %d", data, got, rd.Err(), rd.At(), want, m.err, m.at)
			}
		}
	}
}

func TestWrittenIsRead(t *testing.T) {
	r := random()
	for range 5000 {
		w := pack.NewWriter()
		var acts []act
		for range r.IntN(12) {
			acts = append(acts, someAct(r))
			write(w, acts[len(acts)-1])
		}
		data := w.Data()
		rd := pack.NewReader(data)
		for _, a := range acts {
			if got := read(rd, a.kind, a.max); got != a {
				t.Fatalf("P7.5: %+v is read as %+v, %d", a, got, rd.Err())
			}
		}
		if rd.End(); rd.Err() != api.OK || rd.At() != len(data) {
			t.Fatalf("P7.5: %d bytes were written and %d read, %d", len(data), rd.At(), rd.Err())
		}
	}
}

// TestReadIsWrittenAgain: of any bytes, what is taken without an error has no other form.
func TestReadIsWrittenAgain(t *testing.T) {
	r := random()
	for range 100000 {
		data := noise(r, r.IntN(24))
		for i := range data {
			data[i] >>= r.IntN(2) * r.IntN(8)
		}
		rd, w := pack.NewReader(data), pack.NewWriter()
		for range 6 {
			a := read(rd, r.IntN(aEnd), math.MaxInt64)
			if rd.Err() != api.OK {
				break
			}
			write(w, a)
		}
		if got := w.Data(); !bytes.Equal(got, data[:rd.At()]) {
			t.Fatalf("P7.5: %x is written again as %x", data[:rd.At()], got)
		}
	}
}

func TestReaderKeepsNothing(t *testing.T) {
	data := spare([]byte{2, 'a', 'b', 1, 'c', 1, 'd'})
	ahead := bytes.Clone(whole(data))
	r := pack.NewReader(data)
	data[1], data[4] = 'x', 'y'
	if got := r.Bytes(9); string(got) != "ab" {
		t.Errorf("P7.3, P7.6: the reader has no copy of its own: %q", got)
	} else {
		for i := range whole(got) {
			whole(got)[i] = 99
		}
		_ = append(got, 99, 99, 99, 99)
	}
	if got := r.Text(9); got != "c" || r.At() != 5 || r.Err() != api.OK {
		t.Errorf("P7.6: what Bytes answered is the reader's own memory: %q, At %d, %d", got, r.At(), r.Err())
	}
	first := r.Bytes(9)
	r.End()
	data[1], data[4] = 'a', 'c'
	if !bytes.Equal(whole(data), ahead) || string(first) != "d" {
		t.Errorf("P7.6: what was handed in was changed: %x", whole(data))
	}
}

func TestReadersAreTheirOwn(t *testing.T) {
	data := []byte{1, 7}
	a, b := pack.NewReader(data), pack.NewReader(data)
	a.End()
	if b.Byte() != 1 || b.Byte() != 7 || b.Err() != api.OK || a.Err() != api.ErrRest || a.At() != 0 || b.At() != 2 {
		t.Errorf("P5: one reader's error or place came to another: %d, At %d", b.Err(), b.At())
	}
}

func TestNilReader(t *testing.T) {
	var r *pack.Reader
	for kind := range kinds {
		for _, most := range []int64{-1, 0, math.MaxInt64} {
			if a := read(r, kind, most); a != (act{kind: kind, max: most}) || r.Err() != api.OK || r.At() != 0 {
				t.Errorf("P7.6: call %d of a nil reader: %+v, %d, At %d", kind, a, r.Err(), r.At())
			}
		}
	}
}
