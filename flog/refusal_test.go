package flog

import (
	"errors"
	"strings"
	"testing"

	"sherd/api"
	"sherd/disk"
)

var (
	myHead = api.Head{Config: api.Config{N: 3, K: 1}, Server: 1}
	good   = api.Update{Kind: api.UFin, Key: "k", Entry: api.Entry{Tag: api.Tag{Count: 1, Client: 1}}}
)

// wraps: an error that says where, with the number inside, and a failure or not.
func wraps(t *testing.T, err error, where string, e api.Errno, failed bool) {
	t.Helper()
	var f *failure
	var r *refusal
	if err == nil || !strings.Contains(err.Error(), where) || !strings.HasSuffix(err.Error(), e.Error()) || !errors.Is(err, e) || number(err) != e {
		t.Fatalf("%v, want %q and %d", err, where, e)
	}
	if errors.As(err, &f) != failed || errors.As(err, &r) == failed {
		t.Fatalf("%v: is it the disk's? want %v", err, failed)
	}
}

func TestWhatIsRefused(t *testing.T) {
	_, _, err := open(nil, myHead)
	wraps(t, err, atDisk, api.ErrArg, false)
	_, _, err = open(disk.New(), api.Head{})
	wraps(t, err, atHead, api.ErrConfig, false)
	d := disk.New()
	l, _, err := open(d, myHead)
	if err != nil || number(err) != api.OK {
		t.Fatal(err)
	}
	other := myHead
	other.Server = 0
	_, _, err = open(d, other)
	wraps(t, err, atHead, api.ErrHead, false)
	wraps(t, l.change([]api.Update{good, good, {}}, l.grow), "update 2", api.ErrKind, false)
	wraps(t, l.change([]api.Update{good, {}}, l.anew), "update 1", api.ErrKind, false)
	if l.failed != nil {
		t.Fatalf("P14.2: a refusal is kept: %v", l.failed)
	}
}

// TestWhereTheDiskFails: each act by its name; the log keeps what it was, and tells it again.
func TestWhereTheDiskFails(t *testing.T) {
	for i, where := range []string{inWipe, inAppend, inSync, inSwitch} {
		l, d := stopped(t, i+1)
		wraps(t, l.change(nil, l.anew), where, api.ErrDead, true)
		wraps(t, l.change(nil, l.grow), where, api.ErrDead, true)
		_, _, err := open(d, myHead)
		wraps(t, err, inRead, api.ErrDead, true)
		d = disk.New()
		d.Stop(i+1, true)
		_, _, err = open(d, myHead)
		wraps(t, err, where, api.ErrDead, true)
	}
	for i, where := range []string{inAppend, inSync} {
		l, _ := stopped(t, i+1)
		wraps(t, l.change([]api.Update{good}, l.grow), where, api.ErrDead, true)
		wraps(t, l.change([]api.Update{good}, l.anew), where, api.ErrDead, true)
	}
}

func stopped(t *testing.T, n int) (*Log, *disk.Disk) {
	t.Helper()
	d := disk.New()
	l, _, err := open(d, myHead)
	if err != nil {
		t.Fatal(err)
	}
	d.Stop(n, false)
	return l, d
}
