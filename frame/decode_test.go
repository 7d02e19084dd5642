package frame_test

import (
	"bytes"
	"encoding/hex"
	"math/rand/v2"
	"slices"
	"strings"
	"testing"

	"sherd/api"
	"sherd/frame"
	"sherd/sum"
)

// checkDecode holds Decode of any bytes against the chapter's words; and what is taken against what Encode gives.
func checkDecode(t *testing.T, data []byte) api.Errno {
	t.Helper()
	want, e := decodeByWords(data)
	got, err := frame.Decode(data)
	if err != e || !same(got, want) {
		t.Fatalf("F4: Decode of %d bytes, %x, is %v, %d, want %v, %d", len(data), data[:min(len(data), 100)], brief(got), err, brief(want), e)
	}
	if err != api.OK {
		return err
	}
	if f, again := frame.Encode(got); again != api.OK || !bytes.Equal(f, data) {
		t.Fatalf("F1: %x is taken, but the message's frame is %x, %d", data[:min(len(data), 100)], f[:min(len(f), 100)], again)
	}
	return err
}

// zeroMessage: whether it is zero in all.
func zeroMessage(m api.Message) bool { return same(m, api.Message{}) }

func TestDecodeExamples(t *testing.T) {
	for _, c := range []struct {
		body string
		e    api.Errno
	}{
		{"01010001016b", api.OK}, {"01", api.ErrForm}, {"00", api.ErrKind}, {"09", api.ErrKind}, {"ff", api.ErrKind}, {"81", api.ErrKind},
		{"01010001016b00", api.ErrForm}, {"01000001016b", api.ErrForm}, {"", api.ErrShort},
		// a wrong kind is told ahead of a wrong form
		{"09010001016b", api.ErrKind}, {"00010001016b", api.ErrKind}, {"0801", api.ErrForm},
		// numbers in another form, and beyond what may be
		{"0181000001016b", api.ErrForm}, {"0181000001" + "016b", api.ErrForm}, {"0101800001016b", api.ErrForm}, {"01ffff0300" + "01016b", api.OK}, {"0180800400" + "01016b", api.ErrForm},
		{"0101fe01" + "01016b", api.OK}, {"0101ff01" + "01016b", api.ErrForm}, {"01010000016b", api.ErrForm},
		{"010100ffffffffffffffff3f" + "016b", api.OK}, {"010100808080808080808040" + "016b", api.ErrForm}, {"010100ffffffffffffffff7f" + "016b", api.ErrForm}, {"010100ffffffffffffffffff01" + "016b", api.ErrForm},
		// keys
		{"0101000100", api.ErrForm}, {"01010001026b", api.ErrForm}, {"0101000181006b", api.ErrForm},
		{"01010001" + "40" + strings.Repeat("6b", 64), api.OK}, {"01010001" + "41" + strings.Repeat("6b", 65), api.ErrForm},
		// tags
		{"02010001016b0000", api.OK}, {"02010001016b0001", api.ErrForm}, {"02010001016b0100", api.ErrForm}, {"02010001016b01", api.ErrForm}, {"02010001016b", api.ErrForm},
		{"04010001016b0101", api.OK}, {"04010001016b0000", api.ErrForm}, {"04010001016b0001", api.ErrForm}, {"04010001016b0100", api.ErrForm}, {"04010001016b01808004", api.ErrForm},
		{"04010001016b" + "ffffffffffffffff3f" + "ffff03", api.OK}, {"04010001016b" + "808080808080808040" + "01", api.ErrForm},
		// a yes or a no, and data
		{"08010001016b0101000000", api.OK}, {"08010001016b0101000002", api.ErrForm}, {"08010001016b0101000001", api.ErrForm}, {"08010001016b010100000100", api.OK},
		{"08010001016b010100000000", api.ErrForm}, {"08010001016b01010000000107", api.ErrForm}, {"08010001016b01010000010107", api.OK}, {"08010001016b0101000001010707", api.ErrForm}, {"08010001016b01010000010207", api.ErrForm},
		{"03010001016b0101", api.ErrForm}, {"03010001016b010100", api.OK}, {"03010001016b01010107", api.OK}, {"03010001016b0101010107", api.ErrForm}, {"03010001016b0101810007", api.ErrForm},
	} {
		body, err := hex.DecodeString(c.body)
		if err != nil {
			t.Fatal(err)
		}
		m, e := frame.Decode(summed(body))
		if e != c.e || e != api.OK && !zeroMessage(m) {
			t.Errorf("F4: Decode of %s and its sum is %v, %d, want %d", c.body, m, e, c.e)
		}
		checkDecode(t, summed(body))
	}
}

// TestDecodeLengths: the errors of lengths and sums, the first that applies.
func TestDecodeLengths(t *testing.T) {
	r := random()
	for _, c := range []struct {
		name string
		data []byte
		e    api.Errno
	}{
		{"nothing", nil, api.ErrShort}, {"no byte", []byte{}, api.ErrShort}, {"one", []byte{1}, api.ErrShort}, {"four zeros", make([]byte, 4), api.ErrShort}, {"four", []byte{1, 2, 3, 4}, api.ErrShort},
		{"five zeros", make([]byte, 5), api.ErrSum}, {"66000 zeros", make([]byte, 66000), api.ErrSum}, {"66001 zeros", make([]byte, 66001), api.ErrLong},
		{"65996 zeros and their sum", summed(make([]byte, 65996)), api.ErrKind}, {"65997 zeros and their sum", summed(make([]byte, 65997)), api.ErrLong},
		{"65996 ones and their sum", summed(bytes.Repeat([]byte{1}, 65996)), api.ErrForm}, {"65997 ones and their sum", summed(bytes.Repeat([]byte{1}, 65997)), api.ErrLong},
		{"a million", noise(r, 1000000), api.ErrLong},
	} {
		if m, e := frame.Decode(c.data); e != c.e || !zeroMessage(m) {
			t.Errorf("F4: Decode of %s is %v, %d, want %d", c.name, m, e, c.e)
		}
	}
	good := summed([]byte("\x01\x01\x00\x01\x01k"))
	for i := range 4 { // each byte of the sum counts, and their order
		for bit := range 8 {
			bad := bytes.Clone(good)
			bad[6+i] ^= 1 << bit
			if m, e := frame.Decode(bad); e != api.ErrSum || !zeroMessage(m) {
				t.Errorf("F4: Decode with another sum is %v, %d", m, e)
			}
		}
	}
	slices.Reverse(good[6:])
	if m, e := frame.Decode(good); e != api.ErrSum || !zeroMessage(m) {
		t.Errorf("F4: Decode with the sum turned round is %v, %d", m, e)
	}
}

// TestDecodeOfTooMuchData: the longest data that may be, and one byte more, with all else right.
func TestDecodeOfTooMuchData(t *testing.T) {
	for _, head := range []string{"\x03\x01\x00\x01\x01k\x01\x01", "\x08\x01\x00\x01\x01k\x01\x01\x01\x01\x01"} {
		for _, c := range []struct {
			long int
			e    api.Errno
		}{{65540, api.OK}, {65541, api.ErrForm}, {65900, api.ErrForm}} {
			data := summed([]byte(head), form(int64(c.long)), make([]byte, c.long))
			if m, e := frame.Decode(data); e != c.e || e == api.OK && len(m.Data) != c.long || e != api.OK && !zeroMessage(m) {
				t.Errorf("F4: Decode of %d bytes of data: %d bytes, %d, want %d", c.long, len(m.Data), e, c.e)
			}
		}
	}
}

// TestDecodeOfAllShortBodies: all bodies of a few kinds of bytes, with their sums: Decode takes just those that are frames.
func TestDecodeOfAllShortBodies(t *testing.T) {
	taken := map[int]int{}
	for _, world := range []struct {
		signs []byte
		long  int
	}{
		{[]byte{0, 1, 2, 4, 7}, 8}, {[]byte{0, 1, 0x80, 0x81}, 7}, {[]byte{1, 3}, 14}, {[]byte{1, 8}, 14}, {[]byte{0, 1}, 14}, {[]byte{1, 2, 5}, 9},
	} {
		for long := 1; long <= world.long; long++ {
			body := make([]byte, long)
			all := 1
			for range long {
				all *= len(world.signs)
			}
			for n := range all {
				for i, left := 0, n; i < long; i, left = i+1, left/len(world.signs) {
					body[i] = world.signs[left%len(world.signs)]
				}
				if checkDecode(t, summed(body)) == api.OK {
					taken[int(body[0])]++
				}
			}
		}
	}
	for _, kind := range []int{1, 2, 3, 4, 5, 7, 8} {
		if taken[kind] == 0 {
			t.Errorf("no frame of kind %d was among them: the test says little (%v)", kind, taken)
		}
	}
}

// TestDecodeOfGaves: what stands behind the tags of a Gave, all short endings of a few kinds of bytes.
func TestDecodeOfGaves(t *testing.T) {
	taken := 0
	signs := []byte{0, 1, 2, 3, 0x80}
	for _, head := range []string{"\x08\x01\x00\x01\x01k\x01\x01", "\x08\x01\x00\x01\x02kk\x05\x02\x03\x01", "\x03\x01\x00\x01\x01k\x01\x01"} {
		for long := range 7 {
			all := 1
			for range long {
				all *= len(signs)
			}
			for n := range all {
				body := []byte(head)
				for i, left := 0, n; i < long; i, left = i+1, left/len(signs) {
					body = append(body, signs[left%len(signs)])
				}
				if checkDecode(t, summed(body)) == api.OK {
					taken++
				}
			}
		}
	}
	if taken < 100 {
		t.Errorf("only %d were taken: the test says little", taken)
	}
}

// changed: the body with a few bytes turned, put in or taken out.
func changed(r *rand.Rand, body []byte) []byte {
	body = bytes.Clone(body)
	for range 1 + r.IntN(2) {
		i := r.IntN(len(body))
		switch r.IntN(4) {
		case 0:
			body[i] = byte(r.IntN(256))
		case 1:
			body[i] ^= 1 << r.IntN(8)
		case 2:
			body = slices.Insert(body, i, byte(r.IntN(256)))
		case 3:
			if len(body) > 1 {
				body = slices.Delete(body, i, i+1)
			}
		}
	}
	return body
}

// TestDecodeOfWhatIsNearlyAFrame: with the right sum, so that the form alone decides.
func TestDecodeOfWhatIsNearlyAFrame(t *testing.T) {
	r := random()
	met := map[api.Errno]int{}
	for range 60000 {
		m := someMessage(r, 1+r.IntN(8))
		m.Data = m.Data[:min(len(m.Data), 9)]
		m.Key = m.Key[:min(len(m.Key), 1+r.IntN(5))]
		met[checkDecode(t, summed(changed(r, bodyByWords(m))))]++
	}
	for _, e := range []api.Errno{api.OK, api.ErrKind, api.ErrForm} {
		if met[e] < 1000 {
			t.Errorf("only %d came to %d: the test says little", met[e], e)
		}
	}
}

func TestDecodeOfNoise(t *testing.T) {
	r := random()
	for range 20000 {
		data := noise(r, r.IntN(40))
		checkDecode(t, data)
		checkDecode(t, summed(data))
		if len(data) > 0 {
			data[0] = byte(1 + r.IntN(8))
			checkDecode(t, summed(data))
		}
	}
	for _, long := range []int{65652, 65653, 65995, 65996, 65997, 66001} {
		data := noise(r, long)
		data[0] = 3
		checkDecode(t, data)
		checkDecode(t, summed(data))
	}
}

// TestBursts: from every bit of a frame on, by a few patterns each.
func TestBursts(t *testing.T) {
	r := random()
	for _, m := range edgeMessages() {
		f := checkBothWays(t, m)
		for bit := range 8 * len(f) {
			patterns := []uint32{1, 3, 0x80000001, 0xffffffff, 0xEDB88321, r.Uint32() | 1}
			for _, p := range patterns {
				spoilt, _ := sum.Turn(f, bit, p)
				if got, e := frame.Decode(spoilt); e != api.ErrSum || !zeroMessage(got) {
					t.Fatalf("F2: %x with the bits from %d on turned by %x is %v, %d", f, bit, p, got, e)
				}
			}
		}
	}
	f := checkBothWays(t, ask())
	for bit := range 8 * len(f) { // all pairs of bits that lie near enough
		for width := range 32 {
			spoilt, _ := sum.Turn(f, bit, 1|1<<width)
			if _, e := frame.Decode(spoilt); e != api.ErrSum {
				t.Fatalf("F2: the bits %d and %d turned: %d", bit, bit+width, e)
			}
		}
	}
	for _, m := range greatMessages() {
		f := checkBothWays(t, m)
		for range 100 {
			bit, p := r.IntN(8*len(f)), r.Uint32()|1
			spoilt, _ := sum.Turn(f, bit, p)
			if _, e := frame.Decode(spoilt); e != api.ErrSum {
				t.Fatalf("F2: %d bytes with the bits from %d on turned by %x: %d", len(f), bit, p, e)
			}
		}
	}
}

// TestABurstBeyondTheEndSpoilsNothing: no bit is turned.
func TestABurstBeyondTheEndSpoilsNothing(t *testing.T) {
	f := checkBothWays(t, ask())
	spoilt, _ := sum.Turn(f, 8*len(f), 0xffffffff)
	if m, e := frame.Decode(spoilt); e != api.OK || !same(m, ask()) {
		t.Errorf("P9: %v, %d", m, e)
	}
}

// TestCuts: a frame's beginnings as they stand; and with a sum of their own, so that the sum doesn't tell it.
func TestCuts(t *testing.T) {
	for _, m := range edgeMessages() {
		f := checkBothWays(t, m)
		for n := range f {
			if got, e := frame.Decode(f[:n]); e == api.OK || !zeroMessage(got) {
				t.Fatalf("F3: the first %d bytes of %x are taken", n, f)
			}
			if n < 5 {
				if _, e := frame.Decode(f[:n]); e != api.ErrShort {
					t.Fatalf("F4: %d bytes: %d", n, e)
				}
			}
		}
		body := f[:len(f)-4]
		for n := 1; n < len(body); n++ {
			if got, e := frame.Decode(summed(body[:n])); e != api.ErrForm || !zeroMessage(got) {
				t.Fatalf("F3: the first %d bytes of %x and their sum: %d", n, body, e)
			}
		}
	}
	for _, m := range greatMessages() {
		f := checkBothWays(t, m)
		for _, n := range []int{5, 6, 100, len(f) / 2, len(f) - 5, len(f) - 4, len(f) - 1} {
			if _, e := frame.Decode(f[:n]); e == api.OK {
				t.Fatalf("F3: %d bytes of %d are taken", n, len(f))
			}
			if _, e := frame.Decode(summed(f[:min(n, len(f)-5)])); e != api.ErrForm {
				t.Fatalf("F3: at most %d bytes of %d and their sum: %d", n, len(f), e)
			}
		}
	}
}

// TestBytesBehind: as they stand; and with a sum of their own, so that the sum doesn't tell it.
func TestBytesBehind(t *testing.T) {
	r := random()
	for _, m := range edgeMessages() {
		f := checkBothWays(t, m)
		body := f[:len(f)-4]
		for i := range 256 {
			if got, e := frame.Decode(append(bytes.Clone(f), byte(i))); e == api.OK || !zeroMessage(got) {
				t.Fatalf("F3: %x with %x behind is taken", f, i)
			}
			if got, e := frame.Decode(summed(body, []byte{byte(i)})); e != api.ErrForm || !zeroMessage(got) {
				t.Fatalf("F3: %x with %x behind and the sum: %d", body, i, e)
			}
		}
		for long := range 40 {
			more := noise(r, 1+long)
			if got, e := frame.Decode(slices.Concat(f, more)); e == api.OK || !zeroMessage(got) {
				t.Fatalf("F3: %x with %x behind is taken", f, more)
			}
			if got, e := frame.Decode(summed(body, more)); e != api.ErrForm || !zeroMessage(got) {
				t.Fatalf("F3: %x with %x behind and the sum: %d", body, more, e)
			}
		}
		if _, e := frame.Decode(slices.Concat(f, f)); e == api.OK {
			t.Fatalf("F3: %x twice is taken", f)
		}
		if _, e := frame.Decode(summed(f)); e != api.ErrForm { // a frame with its own sum behind
			t.Fatalf("F3: %x with its sum behind: %d", f, e)
		}
		if _, e := frame.Decode(summed(f, f)); e != api.ErrForm {
			t.Fatalf("F3: %x twice and the sum: %d", f, e)
		}
	}
}
