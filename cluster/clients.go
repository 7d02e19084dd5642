package cluster

import (
	"bytes"
	"maps"
	"slices"
	"strconv"

	"sherd/api"
	"sherd/client"
	"sherd/tag"
)

// clientNode is a client, and what State tells of it that the client itself tells nobody.
type clientNode struct {
	id      int
	servers int            // how many the config has
	client  *client.Client // nil: it has stopped
	begun   int64          // operations
	used    map[string]int64
	work    work
}

// work is what State tells of the operation that is under way.
type work struct {
	value   []byte // of a Put; only read
	top     api.Tag
	answers map[int]gift // of the present phase, by server
}

// gift is the first fragment that a server gave in a phase, if it gave one.
type gift struct {
	has  bool
	data []byte // only read
}

// under is what client.Now tells: it is another as soon as another phase has begun.
type under struct {
	op    int64
	put   bool
	key   string
	tag   api.Tag
	phase int
	err   api.Errno // ErrIdle: nothing is under way
}

func newClient(c api.Config, id int) *clientNode {
	inner, _ := client.New(c, id) // a config that may be, and a number of few
	return &clientNode{id: id, servers: c.N, client: inner, used: map[string]int64{}}
}

func (n *clientNode) name() api.Node { return api.Node{Kind: api.NClient, Id: n.id} }

func (n *clientNode) runs() bool { return n.client != nil }

func (n *clientNode) now() under {
	op, put, key, t, phase, e := n.client.Now()
	return under{op, put, key, t, phase, e}
}

// act is a step of the client's own: what it sends, and what came of it.
func (n *clientNode) act(s api.Step) ([]api.Message, []api.Event, api.Errno) {
	if !n.runs() {
		return nil, nil, api.ErrDown
	}
	switch s.Kind {
	case api.SPut:
		op, requests, e := n.client.Put(s.Key, s.Value)
		return n.begin(op, requests, e, api.Event{Put: true, Key: s.Key, Value: s.Value})
	case api.SGet:
		op, requests, e := n.client.Get(s.Key)
		return n.begin(op, requests, e, api.Event{Key: s.Key})
	case api.SCancel:
		return n.cancel()
	case api.STick:
		return n.client.Tick(), nil, api.OK
	}
	*n = clientNode{id: n.id} // SStop: for ever, so that nothing of it is needed any more
	return nil, nil, api.OK
}

// begin is what an operation that the client was told to begin brings, if it began it.
func (n *clientNode) begin(op int64, requests []api.Message, e api.Errno, came api.Event) ([]api.Message, []api.Event, api.Errno) {
	if e != api.OK {
		return nil, nil, e
	}
	came.Kind, came.Client, came.Op, came.Value = api.Invoke, n.id, op, bytes.Clone(came.Value)
	n.begun, n.work = op, work{value: came.Value}
	return requests, []api.Event{came}, api.OK
}

func (n *clientNode) cancel() ([]api.Message, []api.Event, api.Errno) {
	was := n.now()
	if _, e := n.client.Cancel(); e != api.OK {
		return nil, nil, e
	}
	n.work = work{}
	came := api.Event{Kind: api.Cancel, Client: n.id, Op: was.op, Put: was.put, Key: was.key}
	if was.put {
		came.Tag = was.tag // that of a Get says which it was about to read, and is nobody's business
	}
	return nil, []api.Event{came}, api.OK
}

// take handles a message. What it was answered is noted here too, for a client doesn't tell it.
func (n *clientNode) take(m api.Message) ([]api.Message, []api.Event) {
	was := n.now()
	requests, r, ended := n.client.Handle(m)
	if ended {
		n.work = work{}
		return nil, []api.Event{{Kind: api.Return, Client: n.id, Op: r.Op, Put: r.Put, Key: was.key, Status: r.Status, Tag: r.Tag, Value: r.Value}}
	}
	switch is := n.now(); {
	case is != was:
		n.enter(is)
	case n.counted(m, was):
		n.note(m)
	}
	return requests, nil
}

// enter begins a phase behind the first one, in which nothing is answered yet.
func (n *clientNode) enter(is under) {
	n.work = work{value: n.work.value}
	if is.put {
		n.used[is.key] = is.tag.Count
	}
}

// counted tells whether a message was an answer to what was asked. It was read from a frame: so a Told has the initial tag, as an operation has in phase 1, and no Top is one that may not be.
func (n *clientNode) counted(m api.Message, was under) bool {
	return was.err == api.OK && m.Client == n.id && m.Server < n.servers && m.Op == was.op && m.Key == was.key &&
		m.Kind == answerOf(was) && m.Tag == was.tag
}

// answerOf is the kind of the answers in a phase.
func answerOf(was under) int {
	switch {
	case was.phase == 1:
		return api.Told
	case !was.put:
		return api.Gave
	case was.phase == 2:
		return api.Kept
	}
	return api.Done
}

// note keeps an answer that counted and ended no phase. Those of a Put's later phases have neither a Top nor a fragment.
func (n *clientNode) note(m api.Message) {
	n.work.top = tag.Max(n.work.top, m.Top)
	if n.work.answers == nil {
		n.work.answers = map[int]gift{}
	}
	given := n.work.answers[m.Server]
	if m.Has && !given.has {
		given = gift{true, m.Data} // the message's bytes are this node's alone
	}
	n.work.answers[m.Server] = given
}

func (n *clientNode) line() string {
	words := []string{"client", strconv.Itoa(n.id)}
	if !n.runs() {
		return row(append(words, "stopped")...)
	}
	words = append(words, strconv.FormatInt(n.begun, 10), counters(n.used))
	is := n.now()
	if is.err != api.OK {
		return row(words...)
	}
	if is.put {
		words = append(words, "put", hexed([]byte(is.key)), hexed(n.work.value))
	} else {
		words = append(words, "get", hexed([]byte(is.key)))
	}
	words = append(words, strconv.Itoa(is.phase), tag.Text(is.tag), tag.Text(n.work.top), gifts(n.work.answers))
	return row(words...)
}

// counters are the highest ones that were chosen, by key.
func counters(used map[string]int64) string {
	var parts []string
	for _, key := range slices.Sorted(maps.Keys(used)) {
		parts = append(parts, hexed([]byte(key))+":"+strconv.FormatInt(used[key], 10))
	}
	return listed(parts)
}

// gifts are who has answered, and what they gave first.
func gifts(answers map[int]gift) string {
	var parts []string
	for _, server := range slices.Sorted(maps.Keys(answers)) {
		part := strconv.Itoa(server)
		if given := answers[server]; given.has {
			part += ":" + hexed(given.data)
		}
		parts = append(parts, part)
	}
	return listed(parts)
}

func (n *clientNode) second() *clientNode {
	made := *n
	made.client = n.client.Copy() // of one that has stopped it is nil too
	made.used = maps.Clone(n.used)
	made.work.answers = maps.Clone(n.work.answers)
	return &made
}
