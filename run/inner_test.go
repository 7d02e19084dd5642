package run

import (
	"testing"

	"sherd/api"
)

// TestRefusedPlay: a text whose lines are all taken has a config, clients and steps that Play takes, so this can't be asked from outside.
func TestRefusedPlay(t *testing.T) {
	for want, got := range map[string]string{
		"refused play 40\n":                      playText(api.Config{}, 1, nil),
		"refused play 1\n":                       playText(api.Config{N: 1, K: 1}, 256, nil),
		"refused play 2\n":                       playText(api.Config{N: 1, K: 1}, 1, make([]api.Step, api.MaxSteps+1)),
		"flight 0\nup 1\nlinear yes\ntags yes\n": playText(api.Config{N: 1, K: 1}, 1, nil),
	} {
		if got != want {
			t.Errorf("P25.3: it is told %q, want %q", got, want)
		}
	}
}

// TestNoHistory: no cluster brings one that may not be; it would be explained by nothing.
func TestNoHistory(t *testing.T) {
	for _, es := range [][]api.Event{{{}}, {{Kind: api.Return, Client: 1, Op: 1, Put: true, Key: "k", Tag: api.Tag{Count: 1, Client: 1}}}} {
		if explained, heavy := isLinear(es); explained || heavy || isByTags(es) {
			t.Errorf("P25.2: %+v is explained", es)
		}
	}
}
