package frame_test

import (
	"bytes"
	"encoding/hex"
	"math"
	"strings"
	"testing"

	"sherd/api"
	"sherd/frame"
)

func ask() api.Message { return api.Message{Kind: api.Ask, Client: 1, Op: 1, Key: "k"} }

func of(kind int, change func(m *api.Message)) api.Message {
	m := ask()
	m.Kind = kind
	change(&m)
	return m
}

func TestCheckExamples(t *testing.T) {
	one := api.Tag{Count: 1, Client: 1}
	for _, c := range []struct {
		name string
		m    api.Message
		e    api.Errno
	}{
		{"Ask", ask(), api.OK},
		{"kind 9", of(9, func(m *api.Message) {}), api.ErrKind},
		{"client 0 and no key", of(1, func(m *api.Message) { m.Client, m.Key = 0, "" }), api.ErrRange},
		{"a key of 65", of(1, func(m *api.Message) { m.Key = strings.Repeat("k", 65) }), api.ErrKey},
		{"Ask with a tag", of(1, func(m *api.Message) { m.Tag = one }), api.ErrForm},
		{"Ask with Has", of(1, func(m *api.Message) { m.Has = true }), api.ErrForm},
		{"Pre with the initial tag", of(3, func(m *api.Message) {}), api.ErrTag},
		{"Pre without data", of(3, func(m *api.Message) { m.Tag = one }), api.OK},
		{"Pre with 65540", of(3, func(m *api.Message) { m.Tag, m.Data = one, make([]byte, 65540) }), api.OK},
		{"Pre with 65541", of(3, func(m *api.Message) { m.Tag, m.Data = one, make([]byte, 65541) }), api.ErrSize},
		{"Pre with Has", of(3, func(m *api.Message) { m.Tag, m.Has = one, true }), api.ErrForm},
		{"Pre with Has and 65541", of(3, func(m *api.Message) { m.Tag, m.Has, m.Data = one, true, make([]byte, 65541) }), api.ErrSize},
		{"Told with the initial tag", of(2, func(m *api.Message) {}), api.OK},
		{"Told with 0.1", of(2, func(m *api.Message) { m.Top.Client = 1 }), api.ErrTag},
		{"Gave without Has, a byte", of(8, func(m *api.Message) { m.Tag, m.Data = one, []byte{0} }), api.ErrForm},
		{"Gave without Has, 65541 bytes", of(8, func(m *api.Message) { m.Tag, m.Data = one, make([]byte, 65541) }), api.ErrForm},
		{"Gave with Has, no byte", of(8, func(m *api.Message) { m.Tag, m.Has = one, true }), api.OK},
		{"Gave with Has, no byte of a list", of(8, func(m *api.Message) { m.Tag, m.Has, m.Data = one, true, []byte{} }), api.OK},
		{"Gave without Has, no byte of a list", of(8, func(m *api.Message) { m.Tag, m.Data = one, []byte{} }), api.OK},
		{"Gave, Top initial", of(8, func(m *api.Message) { m.Tag = one }), api.OK},
		{"Ask with no byte of a list", of(1, func(m *api.Message) { m.Data = []byte{} }), api.OK},
		{"nothing", api.Message{}, api.ErrKind},
	} {
		if e := frame.Check(c.m); e != c.e {
			t.Errorf("Check of %s is %d, want %d", c.name, e, c.e)
		}
	}
}

// TestCheckIsTheFirstThatApplies: all that goes wrong, each beside each.
func TestCheckIsTheFirstThatApplies(t *testing.T) {
	numbers := []struct {
		client, server int
		op             int64
	}{
		{1, 0, 1}, {65535, 254, greatest}, {0, 0, 1}, {65536, 0, 1}, {math.MinInt, 0, 1}, {math.MaxInt, 0, 1}, {1, -1, 1}, {1, 255, 1}, {1, math.MinInt, 1}, {1, math.MaxInt, 1},
		{1, 0, 0}, {1, 0, -1}, {1, 0, greatest + 1}, {1, 0, math.MinInt64}, {1, 0, math.MaxInt64}, {0, 255, 0}, {1 << 32, 0, 1}, {1 + 1<<32, 1 << 32, 1},
	}
	tags := []api.Tag{{}, {Count: 1, Client: 1}, {Count: greatest, Client: 65535}, {Client: 1}, {Count: 1}, {Count: greatest + 1, Client: 1}, {Count: 1, Client: 65536}, {Count: -1, Client: 1}, {Count: 1, Client: -1}, {Count: math.MinInt64, Client: math.MinInt}}
	datas := [][]byte{nil, {}, {0}, make([]byte, longest), make([]byte, longest+1)}
	keys := []string{"", "k", "\x00", strings.Repeat("k", 64), strings.Repeat("k", 65), strings.Repeat("k", 66000)}
	seen := map[api.Errno]int{}
	for _, kind := range []int{math.MinInt, -1, 0, 1, 2, 3, 4, 5, 6, 7, 8, 9, 10, 256, 257, 264, math.MaxInt} {
		for _, n := range numbers {
			for _, key := range keys {
				for _, tag := range tags {
					for i, top := range tags {
						for j, data := range datas {
							m := api.Message{Kind: kind, Client: n.client, Server: n.server, Op: n.op, Key: key, Tag: tag, Top: top, Has: (i+j)%2 == 0, Data: data}
							for range 2 {
								want := checkByWords(m)
								if e := frame.Check(m); e != want {
									t.Fatalf("Check of %v is %d, want %d", brief(m), e, want)
								}
								seen[want]++
								m.Has = !m.Has
							}
						}
					}
				}
			}
		}
	}
	for _, e := range []api.Errno{api.OK, api.ErrKind, api.ErrRange, api.ErrKey, api.ErrTag, api.ErrSize, api.ErrForm} {
		if seen[e] == 0 {
			t.Errorf("no message had %d: the test says little", e)
		}
	}
}

// brief: the message with little of its data, to be printed.
func brief(m api.Message) api.Message {
	m.Data = m.Data[:min(len(m.Data), 20)]
	m.Key = m.Key[:min(len(m.Key), 65)]
	return m
}

func TestEncodeExamples(t *testing.T) {
	for _, c := range []struct {
		body string
		m    api.Message
	}{
		{"01010001016b", ask()},
		{"08020403016b05020601" + "0101ff", api.Message{Kind: 8, Client: 2, Server: 4, Op: 3, Key: "k", Tag: api.Tag{Count: 5, Client: 2}, Top: api.Tag{Count: 6, Client: 1}, Has: true, Data: []byte{0xff}}},
		{"08020403016b05020000" + "00", api.Message{Kind: 8, Client: 2, Server: 4, Op: 3, Key: "k", Tag: api.Tag{Count: 5, Client: 2}}},
		{"08020403016b05020000" + "0100", api.Message{Kind: 8, Client: 2, Server: 4, Op: 3, Key: "k", Tag: api.Tag{Count: 5, Client: 2}, Has: true}},
		{"02020403016b0000", api.Message{Kind: 2, Client: 2, Server: 4, Op: 3, Key: "k"}},
		{"02020403016b0601", api.Message{Kind: 2, Client: 2, Server: 4, Op: 3, Key: "k", Top: api.Tag{Count: 6, Client: 1}}},
		{"03020403016b05020361" + "6263", api.Message{Kind: 3, Client: 2, Server: 4, Op: 3, Key: "k", Tag: api.Tag{Count: 5, Client: 2}, Data: []byte("abc")}},
		{"03020403016b050200", api.Message{Kind: 3, Client: 2, Server: 4, Op: 3, Key: "k", Tag: api.Tag{Count: 5, Client: 2}}},
		{"04020403016b0502", api.Message{Kind: 4, Client: 2, Server: 4, Op: 3, Key: "k", Tag: api.Tag{Count: 5, Client: 2}}},
		{"05ffff03fe01" + "ffffffffffffffff3f" + "026b6b" + "ffffffffffffffff3f" + "ffff03", api.Message{Kind: 5, Client: 65535, Server: 254, Op: greatest, Key: "kk", Tag: api.Tag{Count: greatest, Client: 65535}}},
		{"06020403016b0502", api.Message{Kind: 6, Client: 2, Server: 4, Op: 3, Key: "k", Tag: api.Tag{Count: 5, Client: 2}}},
		{"07020403016b0502", api.Message{Kind: 7, Client: 2, Server: 4, Op: 3, Key: "k", Tag: api.Tag{Count: 5, Client: 2}}},
	} {
		body, err := hex.DecodeString(c.body)
		if err != nil {
			t.Fatal(err)
		}
		want := summed(body)
		if got, e := frame.Encode(c.m); e != api.OK || !bytes.Equal(got, want) {
			t.Errorf("F1: the frame of %v is %x, %d, want %x", c.m, got, e, want)
		}
		if m, e := frame.Decode(want); e != api.OK || !same(m, c.m) {
			t.Errorf("F1: the message of %x is %v, %d, want %v", want, m, e, c.m)
		}
	}
	if f, _ := frame.Encode(ask()); hex.EncodeToString(f) != "01010001016b10b84785" {
		t.Errorf("F1: the frame of the first example is %x", f) // by another program of the usual check of 32 bits
	}
}

func TestEncodeRefusesWhatCheckRefuses(t *testing.T) {
	r := random()
	refused := 0
	for range 20000 {
		m := someMessage(r, r.IntN(10))
		for range r.IntN(3) {
			switch r.IntN(8) {
			case 0:
				m.Client = 0
			case 1:
				m.Server = 255
			case 2:
				m.Op = -1
			case 3:
				m.Key = ""
			case 4:
				m.Tag = api.Tag{Client: r.IntN(2)}
			case 5:
				m.Top = api.Tag{Count: int64(r.IntN(2)), Client: r.IntN(2)}
			case 6:
				m.Has = !m.Has
			case 7:
				m.Data = noise(r, r.IntN(3))
			}
		}
		want := checkByWords(m)
		got, e := frame.Encode(m)
		if e != want || (e != api.OK) != (got == nil) {
			t.Fatalf("Encode of %v is %x, %d, want %d", m, got, e, want)
		}
		if e != api.OK {
			refused++
		} else if !bytes.Equal(got, summed(bodyByWords(m))) {
			t.Fatalf("F1: the frame of %v is %x", m, got)
		}
	}
	if refused < 5000 || refused > 15000 {
		t.Errorf("%d of 20000 were refused: the test says little", refused)
	}
	long := api.Message{Kind: 3, Client: 1, Op: 1, Key: "k", Tag: api.Tag{Count: 1, Client: 1}, Data: make([]byte, longest+1)}
	if got, e := frame.Encode(long); got != nil || e != api.ErrSize {
		t.Errorf("Encode of %d bytes of data: %d bytes, %d", longest+1, len(got), e)
	}
}

func checkBothWays(t *testing.T, m api.Message) []byte {
	t.Helper()
	f, e := frame.Encode(m)
	if e != api.OK || !bytes.Equal(f, summed(bodyByWords(m))) {
		t.Fatalf("F1: the frame of %v is %x, %d", brief(m), f[:min(len(f), 100)], e)
	}
	if len(f) >= api.MaxFrame {
		t.Fatalf("the frame of %v has %d bytes", brief(m), len(f))
	}
	if got, e := frame.Decode(f); e != api.OK || !same(got, m) {
		t.Fatalf("F1: Decode of the frame of %v is %v, %d", brief(m), brief(got), e)
	}
	return f
}

func TestDecodeGivesTheMessageBack(t *testing.T) {
	r := random()
	for _, m := range append(edgeMessages(), greatMessages()...) {
		checkBothWays(t, m)
	}
	for range 20000 {
		checkBothWays(t, someMessage(r, 1+r.IntN(8)))
	}
	for i := range 256 { // any byte in a key and in data
		checkBothWays(t, api.Message{Kind: 3, Client: 1, Op: 1, Key: string([]byte{byte(i)}), Tag: api.Tag{Count: 1, Client: 1}, Data: []byte{byte(i)}})
	}
	for client := 1; client <= 65535; client += 13 {
		checkBothWays(t, api.Message{Kind: 2, Client: client, Server: client % 255, Op: 1, Key: "k", Top: api.Tag{Count: 1, Client: 65536 - client}})
	}
	for i := range 62 {
		n := int64(1) << i
		for _, op := range []int64{max(n-1, 1), n, min(n+1, greatest)} {
			checkBothWays(t, api.Message{Kind: 7, Client: 1, Op: op, Key: "k", Tag: api.Tag{Count: greatest + 1 - op, Client: 1}})
		}
	}
}

// TestNoTwoMessagesHaveOneFrame: of all messages of a small world.
func TestNoTwoMessagesHaveOneFrame(t *testing.T) {
	met := map[string]api.Message{}
	tags := []api.Tag{{}, {Count: 1, Client: 1}, {Count: 1, Client: 2}, {Count: 2, Client: 1}, {Count: 257, Client: 1}, {Count: 1, Client: 257}}
	texts := []string{"", "\x01", "\x02", "\x01\x01", "\x00\x01\x01", "\x01\x00"}
	for kind := 1; kind <= 8; kind++ {
		for i := range 8 {
			for _, key := range texts {
				for _, tag := range tags {
					for _, top := range tags {
						for _, data := range texts {
							m := api.Message{Kind: kind, Client: 1 + i&1, Server: i >> 1 & 1, Op: int64(1 + i&1), Key: key, Tag: tag, Top: top, Has: i>>2 == 1, Data: []byte(data)}
							f, e := frame.Encode(m)
							if e != api.OK {
								continue
							}
							if other, ok := met[string(f)]; ok && !same(m, other) {
								t.Fatalf("F1: %v and %v have one frame, %x", m, other, f)
							}
							met[string(f)] = m
						}
					}
				}
			}
		}
	}
	if len(met) < 5000 {
		t.Errorf("only %d messages had frames: the test says little", len(met))
	}
}
