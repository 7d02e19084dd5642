package fair

import (
	"slices"

	"sherd/api"
	"sherd/cluster"
)

// round does a round's steps. The events of each are handed on to tell; a step that is refused brings none.
func round(c *cluster.Cluster, order []int, tell func(...api.Event)) {
	do := func(kind, a int) {
		es, _ := c.Do(api.Step{Kind: kind, A: a})
		tell(es...)
	}
	next := drawer(staying(c), order)
	for number, some := next(); some; number, some = next() {
		do(api.SDeliver, number)
	}
	_, clients := c.Config()
	for id := 1; id <= clients; id++ {
		if c.Live(id) {
			do(api.STick, id)
		}
	}
}

// staying is, for each of the round's datagrams as they stand in flight, how many ahead of it are not the round's. That stays so all through the round: those are not touched, and what is sent goes behind all others.
func staying(c *cluster.Cluster) []int {
	var ahead []int
	others := 0
	for _, p := range c.Flight() {
		if between(c, p) {
			ahead = append(ahead, others)
		} else {
			others++
		}
	}
	return ahead
}

// between tells whether a datagram, which has a server at one end and a client at the other, goes between nodes that run.
func between(c *cluster.Cluster, p api.Packet) bool {
	server, client := p.From, p.To
	if p.From.Kind == api.NClient {
		server, client = p.To, p.From
	}
	return c.Up(server.Id) && c.Live(client.Id)
}

// drawer draws the round's datagrams, each of which must be delivered ahead of the next draw: the number that one has in flight by then, and whether one was left.
func drawer(left, order []int) func() (int, bool) {
	return func() (int, bool) {
		if len(left) == 0 {
			return 0, false
		}
		at := 0
		if len(order) > 0 {
			at = modulo(order[0], len(left))
			order = order[1:]
		}
		number := left[at] + at // ahead of it are those that stay and those of the round's that are left
		left = slices.Delete(left, at, at+1)
		return number, true
	}
}

// modulo is from 0 to m - 1: the language's remainder has the sign of what is divided.
func modulo(a, m int) int { return (a%m + m) % m }
