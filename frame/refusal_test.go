package frame

import (
	"errors"
	"strings"
	"testing"

	"sherd/api"
)

func withSum(body string) []byte { return append([]byte(body), tail([]byte(body))...) }

// Each refusal inside wraps what is wrong there, says where, and comes to the number that the face answers.
func TestRefusalsWrapTheNumberWithWhere(t *testing.T) {
	full := api.Message{Kind: api.Pre, Client: 1, Op: 1, Key: "k", Tag: api.Tag{Count: 1, Client: 1}}
	checked := func(change func(m *api.Message)) error {
		m := full
		change(&m)
		_, err := encode(m)
		return err
	}
	decoded := func(data []byte) error {
		_, err := decode(data)
		return err
	}
	for _, x := range []struct {
		err   error
		where string
		cause api.Errno
		e     api.Errno
	}{
		{checked(func(m *api.Message) { m.Kind = 0 }), atKind, api.ErrKind, api.ErrKind},
		{checked(func(m *api.Message) { m.Op = 0 }), atNumbers, api.ErrRange, api.ErrRange},
		{checked(func(m *api.Message) { m.Key = "" }), atKey, api.ErrKey, api.ErrKey},
		{checked(func(m *api.Message) { m.Tag.Count = 0 }), atTag, api.ErrTag, api.ErrTag},
		{checked(func(m *api.Message) { m.Kind, m.Top.Client = api.Gave, 1 }), atTop, api.ErrTag, api.ErrTag},
		{checked(func(m *api.Message) { m.Data = make([]byte, 65541) }), atData, api.ErrSize, api.ErrSize},
		{checked(func(m *api.Message) { m.Has = true }), atUnused, api.ErrForm, api.ErrForm},
		{decoded(make([]byte, 66001)), atLength, api.ErrLong, api.ErrLong},
		{decoded(nil), atLength, api.ErrShort, api.ErrShort},
		{decoded(make([]byte, 5)), atSum, api.ErrSum, api.ErrSum},
		{decoded(withSum("\x09")), atKind, api.ErrKind, api.ErrKind},
		{decoded(withSum("\x01")), atByte + "1", api.ErrShort, api.ErrForm},
		{decoded(withSum("\x01\x81\x00\x00\x01\x01k")), atByte + "1", api.ErrForm, api.ErrForm},
		{decoded(withSum("\x01\x01\x00\x01\x02k")), atByte + "4", api.ErrShort, api.ErrForm},
		{decoded(withSum("\x01\x01\xff\x01\x01\x01k")), atByte + "2", api.ErrRange, api.ErrForm},
		{decoded(withSum("\x01\x01\x00\x01\x01kk")), atByte + "6", api.ErrRest, api.ErrForm},
		{decoded(withSum("\x01\x00\x00\x01\x01k")), atNumbers, api.ErrRange, api.ErrForm},
		{decoded(withSum("\x01\x01\x00\x01\x00")), atKey, api.ErrKey, api.ErrForm},
		{decoded(withSum("\x04\x01\x00\x01\x01k\x00\x00")), atTag, api.ErrTag, api.ErrForm},
		{decoded(withSum("\x02\x01\x00\x01\x01k\x00\x01")), atTop, api.ErrTag, api.ErrForm},
	} {
		var form *noFrame
		if !errors.Is(x.err, x.cause) || errors.As(x.err, &form) != (x.cause != x.e || strings.HasPrefix(x.where, atByte)) {
			t.Errorf("%v: want the number %d in it", x.err, x.cause)
			continue
		}
		if text := x.err.Error(); !strings.HasSuffix(text, x.where+": "+x.cause.Error()) {
			t.Errorf("%q: want %q in it", text, x.where)
		}
		if e := number(x.err); e != x.e {
			t.Errorf("%v: the face answers %d, want %d", x.err, e, x.e)
		}
	}
	if e := number(nil); e != api.OK {
		t.Errorf("nothing refused became %d", e)
	}
}

// The chapter's table, flag by flag.
func TestWhatEachKindUses(t *testing.T) {
	want := map[int][]uint8{
		api.Ask: {}, api.Told: {usesTop}, api.Pre: {usesTag, usesData}, api.Kept: {usesTag}, api.Fin: {usesTag}, api.Done: {usesTag}, api.Read: {usesTag},
		api.Gave: {usesTag, usesTop, usesHas, usesData},
	}
	for kind, flags := range want {
		all := uint8(0)
		for _, f := range flags {
			all |= f
		}
		if uses[kind] != all {
			t.Errorf("F1: kind %d uses %b, want %b", kind, uses[kind], all)
		}
	}
}
