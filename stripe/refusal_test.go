package stripe

import (
	"errors"
	"math"
	"strings"
	"testing"

	"sherd/api"
	"sherd/code"
)

// Each refusal inside wraps the number that the face answers, and says where it came from.
func TestRefusalsWrapTheNumberWithWhere(t *testing.T) {
	c, _ := code.New(4, 2)
	four := func(first string, second string) []api.Part {
		return []api.Part{{Index: 0, Data: []byte(first)}, {Index: 1, Data: []byte(second)}}
	}
	err := func(_ any, err error) error { return err }
	_, _, beyond := mended(c, append(four("ab", "cd"), api.Part{Index: 2, Data: []byte("no")}))
	_, _, noStripe := mended(c, four("a", "b"))
	for _, x := range []struct {
		err   error
		where string
		e     api.Errno
	}{
		{err(split(nil, nil)), atFace, api.ErrArg},
		{err(split(c, make([]byte, 65537))), atStripe, api.ErrValue},
		{err(cut(nil, nil, 0)), atFace, api.ErrArg},
		{err(cut(c, make([]byte, 65537), 0)), atStripe, api.ErrValue},
		{err(cut(c, nil, 4)), atCode, api.ErrIndex},
		{err(cut(c, nil, math.MinInt)), atCode, api.ErrIndex},
		{err(join(nil, nil)), atFace, api.ErrArg},
		{err(join(c, nil)), atCode, api.ErrFew},
		{err(join(c, four("a", "b"))), atStripe, api.ErrSize},
		{err(join(c, four("\xff\xff\xff\xff", "abcd"))), atStripe, api.ErrLength},
		{err(join(c, four("\x03\x00\x00\x00", "abcd"))), atStripe, api.ErrPad},
		{beyond, atMend, api.ErrWrong},
		{noStripe, atStripe, api.ErrSize},
	} {
		if !errors.Is(x.err, x.e) || number(x.err) != x.e {
			t.Errorf("P5.3: %v: want the number %d in it", x.err, x.e)
			continue
		}
		if text := x.err.Error(); !strings.Contains(text, x.where) || !strings.HasSuffix(text, x.e.Error()) {
			t.Errorf("%q: want %q and %q in it", text, x.where, x.e.Error())
		}
	}
}

func TestNothingRefusedIsNoError(t *testing.T) {
	if err := refuse(atCode, api.OK); err != nil || number(err) != api.OK {
		t.Errorf("OK became %v", err)
	}
}
