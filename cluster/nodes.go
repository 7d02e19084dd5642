package cluster

import "sherd/api"

// node is one end of the datagrams: a server with its disk, or a client.
type node interface {
	name() api.Node
	runs() bool                                      // whether it is up, or live: to one that isn't nothing comes
	take(m api.Message) ([]api.Message, []api.Event) // of one that runs: what it sends, and the events that came of it
	line() string                                    // its line of State
}

// peer is the other end of a message that a node sends. An answer goes to the client that it names, whether that is there or not.
func peer(n node, m api.Message) api.Node {
	switch n.(type) {
	case *serverNode:
		return api.Node{Kind: api.NClient, Id: m.Client}
	default:
		return api.Node{Kind: api.NServer, Id: m.Server}
	}
}
