package quorum

import (
	"slices"
	"testing"

	"sherd/api"
)

// TestServersBrokenOff: one who ranges over a set's servers may stop at any of them.
func TestServersBrokenOff(t *testing.T) {
	s, _ := New(api.Config{N: 130, K: 1})
	for server := 0; server < 130; server += 3 {
		s.Add(server)
	}
	for _, in := range []bool{true, false} {
		all := slices.Collect(s.servers(in))
		for upTo := 1; upTo <= len(all); upTo++ {
			var got []int
			for server := range s.servers(in) {
				got = append(got, server)
				if len(got) == upTo {
					break
				}
			}
			if !slices.Equal(got, all[:upTo]) {
				t.Fatalf("P9.3: the first %d are %v", upTo, got)
			}
		}
	}
}
