package cluster

import (
	"maps"
	"slices"
	"strconv"
	"strings"

	"sherd/api"
)

const (
	digits  = "0123456789abcdef"
	nothing = "-"
)

// State is all there is as a text, the same just for clusters that go on alike.
func (c *Cluster) State() string {
	if c == nil {
		return ""
	}
	var b strings.Builder
	b.WriteString(row("config", strconv.Itoa(c.config.N), strconv.Itoa(c.config.K), strconv.Itoa(c.config.Delta), strconv.Itoa(len(c.clients))))
	for _, n := range c.nodes() {
		b.WriteString(n.line())
	}
	for _, p := range c.net.Flight() {
		b.WriteString(datagram(p))
	}
	return b.String()
}

// nodes is the servers and then the clients, each by rising numbers.
func (c *Cluster) nodes() []node {
	var all []node
	for _, n := range c.servers {
		all = append(all, n)
	}
	for _, id := range slices.Sorted(maps.Keys(c.clients)) {
		all = append(all, c.clients[id])
	}
	return all
}

func datagram(p api.Packet) string {
	words := []string{"datagram", "from", short(p.From), "to", short(p.To), hexed(p.Data)}
	if p.Lost {
		words = append(words, "lost")
	}
	return row(words...)
}

func short(name api.Node) string {
	if name.Kind == api.NServer {
		return "s" + strconv.Itoa(name.Id)
	}
	return "c" + strconv.Itoa(name.Id)
}

func row(words ...string) string { return strings.Join(words, " ") + "\n" }

func hexed(b []byte) string {
	if len(b) == 0 {
		return nothing
	}
	text := make([]byte, 0, 2*len(b))
	for _, v := range b {
		text = append(text, digits[v>>4], digits[v&15])
	}
	return string(text)
}

func numbers(ns []int) string {
	var parts []string
	for _, v := range ns {
		parts = append(parts, strconv.Itoa(v))
	}
	return listed(parts)
}

func listed(parts []string) string {
	if len(parts) == 0 {
		return nothing
	}
	return strings.Join(parts, ",")
}
