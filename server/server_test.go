package server_test

import (
	"bytes"
	"fmt"
	"slices"
	"strings"
	"testing"

	"sherd/api"
	"sherd/disk"
	"sherd/flog"
	"sherd/server"
)

func opened(t *testing.T, h api.Head, d *disk.Disk) *server.Server {
	t.Helper()
	s, e := server.Open(h, d)
	if e != api.OK || s == nil {
		t.Fatalf("P16.1: Open answers %d, and a server: %v", e, s != nil)
	}
	return s
}

// answered has a message handled, and is its one answer.
func answered(t *testing.T, s *server.Server, m api.Message) api.Message {
	t.Helper()
	l, e := s.Handle(m)
	if e != api.OK || len(l) != 1 {
		t.Fatalf("P16.2: Handle(%v) answers %v, %d, want one message", m, l, e)
	}
	return l[0]
}

// refused has a message handled, which must be answered this error and nothing else.
func refused(t *testing.T, s *server.Server, m api.Message, want api.Errno) {
	t.Helper()
	if l, e := s.Handle(m); len(l) != 0 || e != want {
		t.Fatalf("P16.2: Handle(%v) answers %v, %d, want %d", m, l, e, want)
	}
}

// wants has a message handled, and looks at the answer and at the acts of the disk.
func wants(t *testing.T, s *server.Server, d *disk.Disk, m, want api.Message, acts int) {
	t.Helper()
	before := d.Acts()
	want.Client, want.Server, want.Op, want.Key = m.Client, 1, m.Op, m.Key
	if got := answered(t, s, m); !sameMessages([]api.Message{got}, []api.Message{want}) {
		t.Fatalf("P16.2: Handle(%v) answers %v, want %v", m, got, want)
	}
	if d.Acts() != before+acts {
		t.Fatalf("P16.2: Handle(%v) does %d acts, want %d", m, d.Acts()-before, acts)
	}
}

// text is entries, + ahead of a fragment, ! behind a finalized one.
func text(all []api.Held) string {
	var b strings.Builder
	for _, h := range all {
		for _, e := range h.Entries {
			fmt.Fprintf(&b, " %s%d.%d", h.Key, e.Tag.Count, e.Tag.Client)
			if e.Has {
				b.WriteString("+" + strings.Trim(fmt.Sprintf("%q", e.Data), `"`))
			}
			if e.Fin {
				b.WriteString("!")
			}
		}
	}
	return strings.TrimPrefix(b.String(), " ")
}

func holds(t *testing.T, s *server.Server, want string) {
	t.Helper()
	if got := text(s.All()); got != want {
		t.Fatalf("P16.4: All is %s, want %s", got, want)
	}
}

// logs looks at how many updates the log has.
func logs(t *testing.T, s *server.Server, want int) {
	t.Helper()
	if got, _ := s.Log(); got != want {
		t.Fatalf("P16.2, P16.7: the log has %d updates, want %d", got, want)
	}
}

func has(data string) api.Message { return api.Message{Has: true, Data: []byte(data)} }

// gave is a Gave, with what it has of a fragment.
func gave(g, top api.Tag, of api.Message) api.Message {
	of.Kind, of.Tag, of.Top = api.Gave, g, top
	return of
}

func TestExamplesOneToThree(t *testing.T) {
	d := disk.New()
	s := opened(t, head, d)
	one, two := tg(1, 4), tg(2, 4)
	wants(t, s, d, ask("k"), api.Message{Kind: api.Told}, 0)
	wants(t, s, d, pre("k", one, "ab"), api.Message{Kind: api.Kept, Tag: one}, 2)
	first := api.Update{Kind: api.UPre, Key: "k", Entry: api.Entry{Tag: one, Data: []byte("ab")}}
	if got := s.Done(); !sameUpdates(got, []api.Update{first}) {
		t.Fatalf("P16.4: Done is %v", got)
	}
	wants(t, s, d, pre("k", one, "ab"), api.Message{Kind: api.Kept, Tag: one}, 0)
	wants(t, s, d, read("k", one), gave(one, one, has("ab")), 2)
	second := api.Update{Kind: api.UFin, Key: "k", Entry: api.Entry{Tag: one}}
	if got := s.Done(); !sameUpdates(got, []api.Update{first, second}) {
		t.Fatalf("P16.4: Done is %v", got)
	}
	wants(t, s, d, ask("k"), api.Message{Kind: api.Told, Top: one}, 0)

	wants(t, s, d, read("k", two), gave(two, two, api.Message{}), 2)
	holds(t, s, "k2.4!")
	wants(t, s, d, pre("k", one, "ab"), api.Message{Kind: api.Kept, Tag: one}, 0)
	holds(t, s, "k2.4!")
	wants(t, s, d, read("k", one), gave(one, two, api.Message{}), 0)
	wants(t, s, d, pre("k", two, "cd"), api.Message{Kind: api.Kept, Tag: two}, 2)
	holds(t, s, "k2.4+cd!")
	wants(t, s, d, read("k", two), gave(two, two, has("cd")), 0)
	wants(t, s, d, fin("k", two), api.Message{Kind: api.Done, Tag: two}, 0)
	if n, size := s.Log(); n != 4 || size != 9+14+11+11+14 {
		t.Fatalf("P16.4: Log is %d, %d", n, size)
	}
	if got, none := s.Top("k"), s.Top("l"); got != two || none != (api.Tag{}) {
		t.Fatalf("P16.4: Top is %v, and of a key without entries %v", got, none)
	}
}

// TestAFragmentOfNoBytes is one all the same.
func TestAFragmentOfNoBytes(t *testing.T) {
	d := disk.New()
	s := opened(t, head, d)
	wants(t, s, d, pre("k", tg(1, 1), ""), api.Message{Kind: api.Kept, Tag: tg(1, 1)}, 2)
	wants(t, s, d, pre("k", tg(1, 1), "x"), api.Message{Kind: api.Kept, Tag: tg(1, 1)}, 0)
	wants(t, s, d, read("k", tg(1, 1)), gave(tg(1, 1), tg(1, 1), has("")), 2)
	wants(t, opened(t, head, d), d, read("k", tg(1, 1)), gave(tg(1, 1), tg(1, 1), has("")), 0)
}

// TestReadOfATagThatIsNotTheTop: with Delta its fragment is still there; without an entry there is none.
func TestReadOfATagThatIsNotTheTop(t *testing.T) {
	h := head
	h.Config.Delta = 1
	d := disk.New()
	s := opened(t, h, d)
	wants(t, s, d, pre("k", tg(3, 1), "three"), api.Message{Kind: api.Kept, Tag: tg(3, 1)}, 2)
	wants(t, s, d, pre("k", tg(5, 1), "five"), api.Message{Kind: api.Kept, Tag: tg(5, 1)}, 2)
	wants(t, s, d, fin("k", tg(5, 1)), api.Message{Kind: api.Done, Tag: tg(5, 1)}, 2)
	wants(t, s, d, read("k", tg(3, 1)), gave(tg(3, 1), tg(5, 1), has("three")), 2)
	wants(t, s, d, read("k", tg(4, 1)), gave(tg(4, 1), tg(5, 1), api.Message{}), 2)
	holds(t, s, "k4.1! k5.1+five!")
	wants(t, s, d, read("k", tg(3, 1)), gave(tg(3, 1), tg(5, 1), api.Message{}), 0)
	wants(t, s, d, ask("other"), api.Message{Kind: api.Told}, 0)
}

// TestWhichErrorComesFirst: the check's, then the kind, then the server, then the disk's.
func TestWhichErrorComesFirst(t *testing.T) {
	for _, stopped := range []bool{false, true} {
		d := disk.New()
		s := opened(t, head, d)
		last := api.OK
		if stopped {
			d.Stop(1, false)
			refused(t, s, fin("k", tg(1, 1)), api.ErrDead)
			last = api.ErrDead
		}
		acts := d.Acts()
		for _, x := range []struct {
			m api.Message
			e api.Errno
		}{
			{message(0, "k", tg(1, 1), ""), api.ErrKind},
			{message(9, "", tg(1, 1), ""), api.ErrKind},
			{api.Message{Kind: api.Told, Server: 1, Op: 9, Key: "k"}, api.ErrRange},
			{api.Message{Kind: api.Ask, Client: 4, Server: -1, Op: 9, Key: "k"}, api.ErrRange},
			{api.Message{Kind: api.Ask, Client: 4, Server: 255, Op: 9, Key: "k"}, api.ErrRange},
			{api.Message{Kind: api.Ask, Client: 4, Server: 2, Op: 0, Key: "k"}, api.ErrRange},
			{ask(""), api.ErrKey},
			{ask(strings.Repeat("k", 65)), api.ErrKey},
			{fin("k", tg(0, 0)), api.ErrTag},
			{read("k", tg(1, 0)), api.ErrTag},
			{pre("k", tg(api.MaxCount+1, 1), ""), api.ErrTag},
			{pre("k", tg(1, 1), strings.Repeat("x", 65541)), api.ErrSize},
			{message(api.Read, "k", tg(1, 1), "x"), api.ErrForm},
			{message(api.Ask, "k", tg(1, 1), ""), api.ErrForm},
			{message(api.Told, "k", tg(1, 1), ""), api.ErrForm},
			{message(api.Told, "k", api.Tag{}, ""), api.ErrKind},
			{message(api.Kept, "k", tg(1, 1), ""), api.ErrKind},
			{message(api.Done, "k", tg(1, 1), ""), api.ErrKind},
			{message(api.Gave, "k", tg(1, 1), ""), api.ErrKind},
			{api.Message{Kind: api.Told, Client: 4, Server: 2, Op: 9, Key: "k"}, api.ErrKind},
			{api.Message{Kind: api.Ask, Client: 4, Server: 2, Op: 9, Key: "k"}, api.ErrNode},
			{api.Message{Kind: api.Fin, Client: 4, Server: 0, Op: 9, Key: "k", Tag: tg(1, 1)}, api.ErrNode},
			{api.Message{Kind: api.Pre, Client: 4, Server: 254, Op: 9, Key: "k", Tag: tg(1, 1)}, api.ErrNode},
		} {
			refused(t, s, x.m, x.e)
		}
		if d.Acts() != acts || len(s.Done()) != 0 || len(s.All()) != 0 {
			t.Fatal("P16.2: what is refused leaves a trace")
		}
		if _, e := s.Handle(ask("k")); e != last {
			t.Fatalf("P16.2: behind them Ask answers %d, want %d", e, last)
		}
	}
}

// TestTheEdgesOfAMessage: the greatest that may be.
func TestTheEdgesOfAMessage(t *testing.T) {
	h := api.Head{Config: api.Config{N: 255, K: 1, Delta: api.MaxDelta}, Server: 254}
	s := opened(t, h, disk.New())
	m := api.Message{Kind: api.Pre, Client: api.MaxClients, Server: 254, Op: api.MaxOp, Key: strings.Repeat("\xff", api.MaxKey), Tag: tg(api.MaxCount, api.MaxClients), Data: bytes.Repeat([]byte{7}, api.MaxValue+4)}
	if got := answered(t, s, m); got.Kind != api.Kept || got.Client != m.Client || got.Server != 254 || got.Op != m.Op || got.Key != m.Key || got.Tag != m.Tag {
		t.Fatalf("P16.2: Pre answers %v", got)
	}
	m.Kind, m.Data = api.Read, nil
	if got := answered(t, s, m); got.Kind != api.Gave || !got.Has || len(got.Data) != api.MaxValue+4 || got.Top != m.Tag {
		t.Fatalf("P16.2: Read answers %v, %v, %d bytes", got.Kind, got.Has, len(got.Data))
	}
	none := opened(t, api.Head{Config: api.Config{N: 1, K: 1}}, disk.New())
	if got := answered(t, none, api.Message{Kind: api.Fin, Client: 1, Op: 1, Key: "k", Tag: tg(1, 1)}); got.Kind != api.Done || got.Server != 0 {
		t.Fatalf("P16.2: the server 0 answers %v", got)
	}
}

func TestOpenRefuses(t *testing.T) {
	dead := disk.New()
	dead.Crash(nil)
	other := disk.New()
	opened(t, head, other)
	stopping := disk.New()
	stopping.Stop(3, true)
	config := api.Head{Config: api.Config{N: 3, K: 4}}
	number := api.Head{Config: head.Config, Server: 3}
	delta := api.Head{Config: api.Config{N: 3, K: 2, Delta: 1}, Server: 1}
	for _, x := range []struct {
		h api.Head
		d *disk.Disk
		e api.Errno
	}{
		{head, nil, api.ErrArg}, {config, nil, api.ErrArg}, {config, dead, api.ErrConfig}, {number, dead, api.ErrNode}, {head, dead, api.ErrDead},
		{api.Head{Config: head.Config, Server: 2}, other, api.ErrHead}, {delta, other, api.ErrHead}, {head, stopping, api.ErrDead},
	} {
		if s, e := server.Open(x.h, x.d); s != nil || e != x.e {
			t.Errorf("P16.1: Open of %v answers %d (and a server: %v), want %d", x.h, e, s != nil, x.e)
		}
	}
	if d := other.Acts(); d != 4 {
		t.Errorf("P16.1: %d acts of a disk that is another server's", d)
	}
}

// TestOpenAppliesTheLogInOrder: updates of each kind, of which some change nothing and one fragment comes ahead of another of its tag; with each Delta its own table.
func TestOpenAppliesTheLogInOrder(t *testing.T) {
	us := []api.Update{
		{Kind: api.UPre, Key: "k", Entry: api.Entry{Tag: tg(1, 1), Data: []byte("a")}},
		{Kind: api.UPre, Key: "k", Entry: api.Entry{Tag: tg(1, 1), Data: []byte("b")}},
		{Kind: api.UFin, Key: "k", Entry: api.Entry{Tag: tg(2, 1)}},
		{Kind: api.UPre, Key: "k", Entry: api.Entry{Tag: tg(1, 2), Data: []byte("c")}},
		{Kind: api.UEntry, Key: "j", Entry: api.Entry{Tag: tg(1, 1), Fin: true, Has: true, Data: []byte("d")}},
		{Kind: api.UEntry, Key: "k", Entry: api.Entry{Tag: tg(3, 1), Fin: true}},
	}
	for delta, want := range []string{"j1.1+d! k3.1!", "j1.1+d! k2.1! k3.1!", "j1.1+d! k1.1+a k1.2+c k2.1! k3.1!"} {
		h := head
		h.Config.Delta = delta
		d := disk.New()
		l, _, _ := flog.Open(d, h)
		l.Append(us...)
		acts := d.Acts()
		s := opened(t, h, d)
		holds(t, s, want)
		logs(t, s, 6)
		if len(s.Done()) != 0 || d.Acts() != acts {
			t.Errorf("P16.1: Open did %d acts, Done has %d", d.Acts()-acts, len(s.Done()))
		}
	}
}

func TestExampleFive(t *testing.T) {
	d := disk.New()
	s := opened(t, head, d)
	for n := int64(1); n <= 18; n++ {
		wants(t, s, d, fin("k", tg(n, 4)), api.Message{Kind: api.Done, Tag: tg(n, 4)}, 2)
		logs(t, s, int(n))
	}
	wants(t, s, d, fin("k", tg(19, 4)), api.Message{Kind: api.Done, Tag: tg(19, 4)}, 6)
	if n, size := s.Log(); n != 1 || size != 9+13 {
		t.Fatalf("P16.7: Log is %d, %d", n, size)
	}
	holds(t, s, "k19.4!")
	if len(s.Done()) != 19 {
		t.Fatalf("P16.4: %d updates are done", len(s.Done()))
	}
	holds(t, opened(t, head, d), "k19.4!")
}

// TestWhenTheLogIsMadeSmall: just above 2 E + 16, E the entries of all keys behind the update, those that it makes and those that it throws away.
func TestWhenTheLogIsMadeSmall(t *testing.T) {
	for other := range 12 {
		d := disk.New()
		s := opened(t, head, d)
		for n := range other { // entries of other keys, and ones that are not finalized
			answered(t, s, pre(string(rune('a'+n%3)), tg(int64(n+1), 1), "x"))
		}
		for n := int64(1); n < int64(other+19); n++ {
			answered(t, s, fin("k", tg(n, 1)))
			logs(t, s, other+int(n))
		}
		wants(t, s, d, fin("k", tg(int64(other+19), 1)), api.Message{Kind: api.Done, Tag: tg(int64(other+19), 1)}, 6)
		logs(t, s, other+1)
	}
}

// TestManyEntriesThrownAwayAtOnce: by one update E falls, and the log is too long.
func TestManyEntriesThrownAwayAtOnce(t *testing.T) {
	d := disk.New()
	s := opened(t, head, d)
	for n := int64(1); n <= 40; n++ {
		wants(t, s, d, pre("k", tg(n, 1), "x"), api.Message{Kind: api.Kept, Tag: tg(n, 1)}, 2)
	}
	wants(t, s, d, read("k", tg(30, 1)), gave(tg(30, 1), tg(30, 1), has("x")), 6) // 41 updates, 11 entries
	logs(t, s, 11)
	if all := s.All(); len(all) != 1 || len(all[0].Entries) != 11 || len(s.Done()) != 41 {
		t.Fatalf("P16.4: All is %v", all)
	}
}

// TestALongLogIsOpenedAsItStands: it is made small by the next update, not ahead, and not by what changes nothing.
func TestALongLogIsOpenedAsItStands(t *testing.T) {
	b := logged(t, 0, 50)
	s, d := b.server, b.disk
	logs(t, s, 50)
	wants(t, s, d, ask("z"), api.Message{Kind: api.Told, Top: tg(50, 1)}, 0)
	wants(t, s, d, fin("z", tg(50, 1)), api.Message{Kind: api.Done, Tag: tg(50, 1)}, 0)
	wants(t, s, d, pre("z", tg(49, 1), "x"), api.Message{Kind: api.Kept, Tag: tg(49, 1)}, 0)
	wants(t, s, d, read("z", tg(1, 1)), gave(tg(1, 1), tg(50, 1), api.Message{}), 0)
	logs(t, s, 50)
	wants(t, s, d, pre("z", tg(50, 1), "x"), api.Message{Kind: api.Kept, Tag: tg(50, 1)}, 6)
	logs(t, s, 1)
	if len(s.Done()) != 1 {
		t.Fatalf("P16.4: Done is %v", s.Done())
	}
}

// TestManyKeys: E is of all keys, and known without going through them at each update.
func TestManyKeys(t *testing.T) {
	s := opened(t, head, disk.New())
	const keys = 3000
	for n := range keys {
		answered(t, s, pre(fmt.Sprint(n), tg(1, 1), "x"))
	}
	for n := range keys {
		answered(t, s, fin(fmt.Sprint(n), tg(1, 1)))
	}
	logs(t, s, 2*keys)
	for n := range 16 {
		answered(t, s, fin(fmt.Sprint(n), tg(2, 1)))
	}
	logs(t, s, 2*keys+16)
	answered(t, s, fin("0", tg(3, 1)))
	logs(t, s, keys)
}

func TestCompact(t *testing.T) {
	d := disk.New()
	s := opened(t, head, d)
	for _, m := range []api.Message{pre("k", tg(1, 1), "a"), fin("k", tg(1, 1)), pre("k", tg(2, 1), "b"), fin("j", tg(4, 1)), pre("k", tg(2, 1), "c")} {
		answered(t, s, m)
	}
	logs(t, s, 4)
	for range 2 {
		before, acts := s.Done(), d.Acts()
		if e := s.Compact(); e != api.OK || d.Acts() != acts+4 {
			t.Fatalf("P16.3: Compact answers %d, %d acts", e, d.Acts()-acts)
		}
		logs(t, s, 3)
		holds(t, s, "j4.1! k1.1+a! k2.1+b")
		if !sameUpdates(s.Done(), before) {
			t.Fatal("P16.3: Compact changes Done")
		}
	}
	_, us, e := flog.Open(d, head)
	if e != api.OK || !slices.Equal(kindsOf(us), []int{api.UEntry, api.UEntry, api.UEntry}) {
		t.Fatalf("P16.3: the log has %v", us)
	}
	empty := opened(t, head, disk.New())
	if e := empty.Compact(); e != api.OK {
		t.Fatalf("P16.3: Compact without entries answers %d", e)
	}
	logs(t, empty, 0)
}

func kindsOf(us []api.Update) []int {
	var kinds []int
	for _, u := range us {
		kinds = append(kinds, u.Kind)
	}
	return kinds
}

// TestExampleSix: behind the disk's error nothing more is done or answered.
func TestExampleSix(t *testing.T) {
	for stop := 1; stop <= 2; stop++ {
		for _, done := range []bool{false, true} {
			d := disk.New()
			s := opened(t, head, d)
			answered(t, s, fin("k", tg(1, 4)))
			n, size := s.Log()
			d.Stop(stop, done)
			for _, m := range []api.Message{pre("k", tg(2, 4), "ab"), pre("k", tg(2, 4), "ab"), ask("k"), fin("k", tg(1, 4)), read("k", tg(1, 4)), ask("none")} {
				refused(t, s, m, api.ErrDead)
			}
			if e := s.Compact(); e != api.ErrDead {
				t.Fatalf("P16.3: Compact answers %d", e)
			}
			holds(t, s, "k1.4!")
			if m, bytes := s.Log(); m != n || bytes != size || len(s.Done()) != 1 || s.Top("k") != tg(1, 4) {
				t.Fatalf("P16.2: Log is %d, %d, Done %v", m, bytes, s.Done())
			}
		}
	}
}

// TestStoppedMakingSmall: the update stands all the same, and is not answered.
func TestStoppedMakingSmall(t *testing.T) {
	for stop := 3; stop <= 6; stop++ {
		for _, done := range []bool{false, true} {
			d := disk.New()
			s := opened(t, head, d)
			for n := int64(1); n <= 18; n++ {
				answered(t, s, fin("k", tg(n, 4)))
			}
			d.Stop(stop, done)
			refused(t, s, fin("k", tg(19, 4)), api.ErrDead)
			refused(t, s, ask("k"), api.ErrDead)
			holds(t, s, "k19.4!")
			logs(t, s, 19)
			if us := s.Done(); len(us) != 19 || us[18].Entry.Tag != tg(19, 4) {
				t.Fatalf("P16.2: Done is %v", us)
			}
			holds(t, opened(t, head, d.Crash(nil)), "k19.4!")
		}
	}
}

// TestStoppedCompact: a Compact's error is once and for all, too.
func TestStoppedCompact(t *testing.T) {
	for stop := 1; stop <= 4; stop++ {
		for _, done := range []bool{false, true} {
			d := disk.New()
			s := opened(t, head, d)
			answered(t, s, pre("k", tg(1, 4), "ab"))
			answered(t, s, fin("k", tg(1, 4)))
			d.Stop(stop, done)
			for range 2 {
				if e := s.Compact(); e != api.ErrDead {
					t.Fatalf("P16.3: Compact answers %d", e)
				}
			}
			refused(t, s, ask("k"), api.ErrDead)
			refused(t, s, fin("k", tg(1, 4)), api.ErrDead)
			holds(t, s, "k1.4+ab!")
			logs(t, s, 2)
			holds(t, opened(t, head, d.Crash(nil)), "k1.4+ab!")
		}
	}
}

// TestAnErrorThatTheDiskHasNotYetAnswered: until the server asks something of the disk it doesn't know, and answers what brings nothing.
func TestAnErrorThatTheDiskHasNotYetAnswered(t *testing.T) {
	d := disk.New()
	s := opened(t, head, d)
	answered(t, s, fin("k", tg(1, 4)))
	d.Crash(nil)
	answered(t, s, ask("k"))
	answered(t, s, fin("k", tg(1, 4)))
	answered(t, s, read("k", tg(1, 4)))
	refused(t, s, fin("k", tg(2, 4)), api.ErrDead)
	refused(t, s, ask("k"), api.ErrDead)
}

// TestOtherErrorsOfTheDisk: one that is not the machine's stop is kept and answered as well.
func TestOtherErrorsOfTheDisk(t *testing.T) {
	d := disk.New()
	s := opened(t, head, d)
	d.Switch(0) // the caller's act: the slot that the log would be written into is the current one
	if e := s.Compact(); e != api.ErrSlot {
		t.Fatalf("P16.3: Compact answers %d", e)
	}
	refused(t, s, ask("k"), api.ErrSlot)
	refused(t, s, fin("k", tg(1, 1)), api.ErrSlot)
	if e := s.Compact(); e != api.ErrSlot || d.Dead() {
		t.Fatalf("P16.3: Compact answers %d", e)
	}
}

func TestNilServer(t *testing.T) {
	var s *server.Server
	for _, m := range append(refusedMessages(), ask("k"), pre("k", tg(1, 1), "a"), api.Message{}) {
		if l, e := s.Handle(m); l != nil || e != api.OK {
			t.Errorf("P16.8: Handle(%v) answers %v, %d", m, l, e)
		}
	}
	n, size := s.Log()
	if s.Compact() != api.OK || s.All() != nil || s.Top("k") != (api.Tag{}) || s.Done() != nil || n != 0 || size != 0 {
		t.Error("P16.8: a nil server tells something")
	}
}
