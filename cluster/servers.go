package cluster

import (
	"slices"
	"strconv"

	"sherd/api"
	"sherd/disk"
	"sherd/server"
)

// serverNode is a server with its disk. Between two steps nothing on the disk is loose.
type serverNode struct {
	head   api.Head
	disk   *disk.Disk
	server *server.Server // nil: it is down
	armed  stop
}

// stop is where a server's disk stops.
type stop struct {
	acts  int   // at which act, counted from the arming on; 0: nothing is armed
	since int   // how many acts the disk had done when it was armed
	list  []int // whether that act is done, and then the crash's choices
}

func newServer(h api.Head) *serverNode {
	n := &serverNode{head: h, disk: disk.New()}
	n.start() // a new disk has nothing against it
	return n
}

func (n *serverNode) name() api.Node { return api.Node{Kind: api.NServer, Id: n.head.Server} }

func (n *serverNode) runs() bool { return n.server != nil }

// act is a step of the server's own.
func (n *serverNode) act(s api.Step) api.Errno {
	if s.Kind == api.SStart {
		return n.start()
	}
	if !n.runs() {
		return api.ErrDown
	}
	switch s.Kind {
	case api.SCrash:
		n.crash(s.L)
	case api.SDie:
		return n.arm(s.B, s.L)
	case api.SCompact:
		return n.endure(n.server.Compact())
	}
	return api.OK
}

func (n *serverNode) start() api.Errno {
	if n.runs() {
		return api.ErrUp
	}
	s, e := server.Open(n.head, n.disk)
	n.server = s
	return e
}

func (n *serverNode) crash(choices []int) {
	n.disk = n.disk.Crash(choices)
	n.server, n.armed = nil, stop{}
}

func (n *serverNode) arm(acts int, list []int) api.Errno {
	if acts < 0 {
		return api.ErrArg
	}
	n.armed = stop{}
	if acts > 0 {
		n.armed = stop{acts: acts, since: n.disk.Acts(), list: slices.Clone(list)}
	}
	n.disk.Stop(acts, n.armed.done())
	return api.OK
}

func (s stop) done() bool { return len(s.list) > 0 && s.list[0]%2 != 0 }

func (s stop) choices() []int { return s.list[min(len(s.list), 1):] }

// left is how many acts from now on an armed disk stops at.
func (n *serverNode) left() int {
	if n.armed.acts == 0 {
		return 0
	}
	return n.armed.acts - (n.disk.Acts() - n.armed.since)
}

// take handles a message. One that the server refuses has vanished.
func (n *serverNode) take(m api.Message) ([]api.Message, []api.Event) {
	answers, e := n.server.Handle(m)
	n.endure(e)
	return answers, nil
}

// endure has a server whose disk has stopped be down: that is no error of the step.
func (n *serverNode) endure(e api.Errno) api.Errno {
	if e != api.ErrDead {
		return e
	}
	n.crash(n.armed.choices())
	return api.OK
}

func (n *serverNode) line() string {
	slots, current := n.disk.Slots()
	state := "down"
	if n.runs() {
		state = "up"
	}
	words := []string{"server", strconv.Itoa(n.head.Server), state, strconv.Itoa(current), hexed(slots[0]), hexed(slots[1])}
	if n.armed.acts > 0 {
		done := "0"
		if n.armed.done() {
			done = "1"
		}
		words = append(words, "stop", strconv.Itoa(n.left()), done, numbers(n.armed.choices()))
	}
	return row(words...)
}

// second is made anew from the bytes of the slots, for a log has all of its server's table.
func (n *serverNode) second() *serverNode {
	made := &serverNode{head: n.head}
	made.disk, _ = disk.Load(n.disk.Slots())
	if n.runs() {
		made.start()
		made.arm(n.left(), n.armed.list)
	}
	return made
}
