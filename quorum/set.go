package quorum

import (
	"iter"
	"math/bits"

	"sherd/api"
)

// wordBits is how many servers one word of a set has room for.
const wordBits = 64

// members has a bit for each server that may be: an array, so that an assignment copies the whole.
type members [(api.MaxServers + wordBits - 1) / wordBits]uint64

// Set is a set of servers.
type Set struct {
	config api.Config
	in     members
}

// New is the empty set of a config's servers.
func New(c api.Config) (*Set, api.Errno) {
	if e := Check(c); e != api.OK {
		return nil, e
	}
	return &Set{config: c}, api.OK
}

// known tells whether the config has such a server.
func (s *Set) known(server int) bool { return server >= 0 && server < s.config.N }

// Add puts one in, and tells whether it is new.
func (s *Set) Add(server int) (bool, api.Errno) {
	if s == nil {
		return false, api.OK
	}
	if !s.known(server) {
		return false, api.ErrNode
	}
	fresh := !s.Has(server)
	s.in[server/wordBits] |= 1 << (server % wordBits)
	return fresh, api.OK
}

// Has tells whether it is in.
func (s *Set) Has(server int) bool {
	return s != nil && s.known(server) && s.in[server/wordBits]>>(server%wordBits)&1 == 1
}

// Len is how many there are.
func (s *Set) Len() int {
	if s == nil {
		return 0
	}
	n := 0
	for _, word := range s.in {
		n += bits.OnesCount64(word)
	}
	return n
}

// servers are those that are in, or those that are not, rising.
func (s *Set) servers(in bool) iter.Seq[int] {
	return func(yield func(int) bool) {
		for server := range s.config.N {
			if s.Has(server) == in && !yield(server) {
				return
			}
		}
	}
}

// List is all, rising.
func (s *Set) List() []int {
	if s == nil {
		return nil
	}
	list := make([]int, 0, s.Len())
	for server := range s.servers(true) {
		list = append(list, server)
	}
	return list
}

// Rest is those that are not in, rising.
func (s *Set) Rest() []int {
	if s == nil {
		return nil
	}
	rest := make([]int, 0, s.config.N-s.Len())
	for server := range s.servers(false) {
		rest = append(rest, server)
	}
	return rest
}

// Met tells whether they are a quorum.
func (s *Set) Met() bool {
	if s == nil {
		return false
	}
	size, _ := Size(s.config) // New took no config that may not be
	return s.Len() >= size
}

// And is those in both.
func (s *Set) And(o *Set) (*Set, api.Errno) {
	if s == nil {
		return nil, api.OK
	}
	if o == nil || o.config != s.config {
		return nil, api.ErrArg
	}
	both := *s
	for i, word := range o.in {
		both.in[i] &= word
	}
	return &both, api.OK
}

// Copy is a second set with the same servers.
func (s *Set) Copy() *Set {
	if s == nil {
		return nil
	}
	second := *s
	return &second
}
