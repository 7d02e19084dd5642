package cluster_test

import (
	"strings"
	"testing"

	"sherd/api"
	"sherd/cluster"
	"sherd/frame"
)

// stuff is a cluster in whose flight there is a long datagram to server 0 and a long one from it to client 1, of which any shorter one can be made; client 1 has nothing under way.
func stuff(t *testing.T, config api.Config, clients int) *cluster.Cluster {
	t.Helper()
	c := made(t, config, clients)
	do(t, c, get(1, strings.Repeat("long", 16)), api.Step{Kind: api.SDouble}, deliver(0), cancel(1))
	for len(c.Flight()) > 2 {
		do(t, c, api.Step{Kind: api.SDrop})
	}
	if got := c.Flight(); got[0].To.Kind != api.NServer || got[1].To != (api.Node{Kind: api.NClient, Id: 1}) {
		t.Fatalf("in flight are %v", got)
	}
	return c
}

// comes has a message come to server 0, or to client 1, in place of the long one.
func comes(t *testing.T, c *cluster.Cluster, toClient int, m api.Message) []api.Event {
	t.Helper()
	data, e := frame.Encode(m)
	if e != api.OK {
		t.Fatal(e)
	}
	do(t, c, api.Step{Kind: api.SDouble, A: toClient})
	at := len(c.Flight()) - 1
	do(t, c, turnInto(at, c.Flight()[at].Data, data)...)
	return do(t, c, deliver(at))
}

// TestForgedAnswers: what a client takes, and what it doesn't, as its state tells it.
func TestForgedAnswers(t *testing.T) {
	for _, x := range []struct {
		m    api.Message
		want string
	}{
		{api.Message{Kind: api.Told, Client: 1, Op: 2, Key: "k", Top: g(7, 9)}, "7.9 0"},
		{api.Message{Kind: api.Told, Client: 1, Server: 4, Op: 2, Key: "k"}, "0.0 4"},
		{api.Message{Kind: api.Told, Client: 1, Server: 5, Op: 2, Key: "k", Top: g(7, 9)}, "0.0 -"},
		{api.Message{Kind: api.Told, Client: 2, Op: 2, Key: "k", Top: g(7, 9)}, "0.0 -"},
		{api.Message{Kind: api.Told, Client: 1, Op: 1, Key: "k", Top: g(7, 9)}, "0.0 -"},
		{api.Message{Kind: api.Told, Client: 1, Op: 2, Key: "j", Top: g(7, 9)}, "0.0 -"},
		{api.Message{Kind: api.Kept, Client: 1, Op: 2, Key: "k", Tag: g(7, 9)}, "0.0 -"},
		{api.Message{Kind: api.Gave, Client: 1, Op: 2, Key: "k", Tag: g(7, 9), Top: g(7, 9)}, "0.0 -"},
		{api.Message{Kind: api.Ask, Client: 1, Op: 2, Key: "k"}, "0.0 -"},
	} {
		for _, s := range []api.Step{put(1, "k", "x"), get(1, "k")} {
			c := stuff(t, api.Config{N: 5, K: 2}, 2)
			do(t, c, s)
			if es := comes(t, c, 1, x.m); len(es) != 0 || len(c.Flight()) != 7 {
				t.Errorf("P22.2: %+v brings %v, %d are in flight", x.m, es, len(c.Flight()))
			}
			want := "client 1 2 - put 6b 78 1 0.0 " + x.want
			if s.Kind == api.SGet {
				want = "client 1 2 - get 6b 1 0.0 " + x.want
			}
			lineIs(t, c, want)
		}
	}
}

// TestForgedGifts: the fragments of a Get's second phase: the first one of a server is told, the highest Top of all.
func TestForgedGifts(t *testing.T) {
	c := stuff(t, api.Config{N: 3, K: 3}, 1)
	do(t, c, get(1, "k"))
	for i := range 3 {
		comes(t, c, 1, api.Message{Kind: api.Told, Client: 1, Server: i, Op: 2, Key: "k", Top: g(5, 5)})
	}
	is := func(want string) {
		t.Helper()
		lineIs(t, c, "client 1 2 - get 6b 2 "+want)
	}
	is("5.5 0.0 -")
	m := api.Message{Kind: api.Gave, Client: 1, Server: 2, Op: 2, Key: "k", Tag: g(5, 5), Top: g(6, 1)}
	comes(t, c, 1, m)
	is("5.5 6.1 2")
	m.Has, m.Top = true, g(2, 2)
	comes(t, c, 1, m)
	is("5.5 6.1 2:-")
	m.Data, m.Top = []byte{1, 2}, g(6, 2)
	comes(t, c, 1, m)
	is("5.5 6.2 2:-")
	m.Server, m.Tag = 0, g(5, 4)
	comes(t, c, 1, m)
	is("5.5 6.2 2:-")
	m.Tag = g(5, 5)
	comes(t, c, 1, m)
	is("5.5 6.2 0:0102,2:-")
	d := c.Copy()
	m.Server, m.Has, m.Data = 1, false, nil
	comes(t, c, 1, m)
	is("6.2 0.0 -") // a quorum, too few fragments, and a higher Top
	m.Has, m.Data = true, []byte{7}
	if es := comes(t, d, 1, m); len(es) != 1 || es[0].Status != api.ErrSize || es[0].Tag != g(5, 5) || len(es[0].Value) != 0 || es[0].Kind != api.Return {
		t.Errorf("P22.2: fragments that don't go together bring %v", es)
	}
}

// TestForgedFull: where the counters end, the Put does.
func TestForgedFull(t *testing.T) {
	c := stuff(t, api.Config{N: 1, K: 1}, 1)
	do(t, c, put(1, "k", "x"))
	top := api.Message{Kind: api.Told, Client: 1, Op: 2, Key: "k", Top: g(api.MaxCount, 1)}
	es := comes(t, c, 1, top)
	if len(es) != 1 {
		t.Fatalf("P22.2: the last counter brings %v", es)
	}
	is(t, es[0], api.Event{Kind: api.Return, Client: 1, Op: 2, Put: true, Key: "k", Status: api.ErrFull})
	lineIs(t, c, "client 1 2 -")
	top.Op, top.Top = 3, g(api.MaxCount-1, 1)
	do(t, c, put(1, "k", "x"))
	comes(t, c, 1, top)
	lineIs(t, c, "client 1 3 6b:4611686018427387903 put 6b 78 2 4611686018427387903.1 0.0 -")
	judgeHistory(t, c.History(), seen{})
}

// TestForgedRequests: what a server refuses vanishes, and it answers to whom the request names.
func TestForgedRequests(t *testing.T) {
	c := stuff(t, api.Config{N: 2, K: 1}, 1)
	state := c.State()
	for _, m := range []api.Message{
		{Kind: api.Ask, Client: 1, Server: 1, Op: 2, Key: "k"}, {Kind: api.Fin, Client: 1, Server: 200, Op: 2, Key: "k", Tag: g(1, 1)},
		{Kind: api.Told, Client: 1, Server: 0, Op: 2, Key: "k"}, {Kind: api.Done, Client: 1, Server: 0, Op: 2, Key: "k", Tag: g(1, 1)},
	} {
		if es := comes(t, c, 0, m); len(es) != 0 || c.State() != state {
			t.Errorf("P22.2: %+v does not vanish: %v\n%s", m, es, c.State())
		}
	}
	for _, client := range []int{2, 255, 256, api.MaxClients} {
		n := len(c.Flight())
		comes(t, c, 0, api.Message{Kind: api.Fin, Client: client, Server: 0, Op: 2, Key: "k", Tag: g(1, client)})
		f := c.Flight()
		if len(f) != n+1 || f[n].From != (api.Node{Kind: api.NServer}) || f[n].To != (api.Node{Kind: api.NClient, Id: client}) {
			t.Fatalf("P22.2: an answer to client %d is %v", client, f)
		}
		do(t, c, api.Step{Kind: api.SDouble, A: n}, deliver(n))
		if len(c.Flight()) != n+1 {
			t.Errorf("P22.2: what comes to a client that isn't there does not vanish")
		}
	}
	if got := c.State(); !strings.HasSuffix(strings.Split(got, "datagram from s0 to c65535 ")[1], "\n") {
		t.Errorf("P22.4: %s", got)
	}
}
