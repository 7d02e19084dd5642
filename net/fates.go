package net

import (
	"sherd/api"
	"sherd/sum"
)

// The fates of a datagram: the rows of the table.
const (
	dropped = iota
	doubled
	turned
	cutOff
	lost
)

// orders is what a fate is told beside the datagram; not each one needs it.
type orders struct {
	number  int // the first bit of a burst, or the size of what a cut leaves
	pattern uint32
}

// fate brings one about at a datagram that is there, or refuses its orders.
type fate func(*Net, int, orders) api.Errno

func fates() [5]fate {
	return [5]fate{
		dropped: (*Net).drop,
		doubled: (*Net).double,
		turned:  (*Net).turn,
		cutOff:  (*Net).cut,
		lost:    (*Net).lose,
	}
}

// become looks first whether the datagram is there, so that no fate has to.
func (n *Net) become(which int, i int, o orders) api.Errno {
	if n == nil {
		return api.OK
	}
	if !n.has(i) {
		return api.ErrNone
	}
	return fates()[which](n, i, o)
}

// has: whether a datagram of that number is in flight.
func (n *Net) has(i int) bool { return 0 <= i && i < n.Len() }

func (n *Net) drop(i int, _ orders) api.Errno {
	copy(n.flight[i:], n.flight[i+1:])
	last := len(n.flight) - 1
	n.flight[last] = api.Packet{} // else its bytes, which may be another's by now, were still held here
	n.flight = n.flight[:last]
	return api.OK
}

func (n *Net) double(i int, _ orders) api.Errno {
	n.flight = append(n.flight, second(n.flight[i]))
	return api.OK
}

func (n *Net) turn(i int, o orders) api.Errno {
	data, e := sum.Turn(n.flight[i].Data, o.number, o.pattern)
	if e != api.OK {
		return e
	}
	n.flight[i].Data = data
	return api.OK
}

func (n *Net) cut(i int, o orders) api.Errno {
	if o.number < 0 {
		return api.ErrArg
	}
	left := make([]byte, min(o.number, len(n.flight[i].Data)))
	copy(left, n.flight[i].Data)
	n.flight[i].Data = left
	return api.OK
}

func (n *Net) lose(i int, _ orders) api.Errno {
	n.flight[i].Lost = true
	return api.OK
}
