package cluster

import (
	"sherd/api"
	"sherd/frame"
)

// step does a step of a kind that may be.
func (c *Cluster) step(s api.Step) api.Errno {
	switch s.Kind {
	case api.SPut, api.SGet, api.SCancel, api.STick, api.SStop:
		return c.act(c.find(api.Node{Kind: api.NClient, Id: s.A}), s)
	case api.SCrash, api.SStart, api.SDie, api.SCompact:
		return c.act(c.find(api.Node{Kind: api.NServer, Id: s.A}), s)
	}
	if c.net.Len() == 0 {
		return api.ErrNone
	}
	return c.pass(s, modulo(s.A, c.net.Len()))
}

// act is a node's own step; the node is nil, if it isn't there.
func (c *Cluster) act(n node, s api.Step) api.Errno {
	switch n := n.(type) {
	case *clientNode:
		sent, came, e := n.act(s)
		c.send(n, sent)
		c.history = append(c.history, came...)
		return e
	case *serverNode:
		return n.act(s)
	}
	return api.ErrNode
}

// pass is what becomes of the datagram of that number.
func (c *Cluster) pass(s api.Step, number int) api.Errno {
	switch s.Kind {
	case api.SDrop:
		return c.net.Drop(number)
	case api.SDouble:
		return c.net.Double(number)
	case api.SBurst:
		pattern := uint32(0)
		if len(s.L) > 0 {
			pattern = uint32(s.L[0])
		}
		return c.net.Burst(number, s.B, pattern)
	case api.SCut:
		return c.net.Cut(number, s.B)
	case api.SLose:
		return c.net.Lose(number)
	}
	p, e := c.net.Take(number)
	c.deliver(p)
	return e
}

// deliver brings a datagram to its end; it vanishes, where nobody is there to take it, or it can't be read.
func (c *Cluster) deliver(p api.Packet) {
	n := c.find(p.To)
	if p.Lost || n == nil || !n.runs() {
		return
	}
	m, e := frame.Decode(p.Data)
	if e != api.OK {
		return
	}
	sent, came := n.take(m)
	c.send(n, sent)
	c.history = append(c.history, came...)
}

func (c *Cluster) send(from node, ms []api.Message) {
	for _, m := range ms {
		data, _ := frame.Encode(m) // what a node sends is a message that may be
		c.net.Send(api.Packet{From: from.name(), To: peer(from, m), Data: data})
	}
}

// modulo is from 0 to m - 1: the language's remainder has the sign of what is divided.
func modulo(a, m int) int { return (a%m + m) % m }
