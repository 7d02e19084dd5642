package script_test

import (
	"math"
	"strconv"
	"strings"
	"testing"

	"sherd/api"
	"sherd/script"
)

func TestConfigs(t *testing.T) {
	for _, x := range []struct {
		line    string
		want    api.Config
		clients int
		why     api.Errno
	}{
		{"config 3 1 0 2", api.Config{N: 3, K: 1}, 2, api.OK},
		{"config 5 2 7 0", api.Config{N: 5, K: 2, Delta: 7}, 0, api.OK},
		{"config 255 255 4611686018427387903 255", api.Config{N: 255, K: 255, Delta: api.MaxDelta}, 255, api.OK},
		{"config 3 4 0 2", api.Config{}, 0, api.ErrConfig},
		{"config 0 0 0 2", api.Config{}, 0, api.ErrConfig},
		{"config 3 0 0 2", api.Config{}, 0, api.ErrConfig},
		{"config 256 1 0 2", api.Config{}, 0, api.ErrConfig},
		{"config -3 -4 0 2", api.Config{}, 0, api.ErrConfig},
		{"config 3 1 -1 2", api.Config{}, 0, api.ErrConfig},
		{"config 3 1 4611686018427387904 2", api.Config{}, 0, api.ErrConfig},
		{"config 3 4 0 256", api.Config{}, 0, api.ErrConfig},
		{"config 3 4 0 -1", api.Config{}, 0, api.ErrConfig},
		{"config 3 1 0 256", api.Config{}, 0, api.ErrArg},
		{"config 3 1 0 65535", api.Config{}, 0, api.ErrArg},
		{"config 3 1 0 -1", api.Config{}, 0, api.ErrArg},
		{"config 3 1 0 9223372036854775807", api.Config{}, 0, api.ErrArg},
		{"config 3 1 0 9223372036854775808", api.Config{}, 0, api.ErrScript},
		{"config 3 4 0 9223372036854775808", api.Config{}, 0, api.ErrScript},
		{"config 3 4 0 02", api.Config{}, 0, api.ErrScript},
		{"config 3 1 0", api.Config{}, 0, api.ErrScript},
		{"config 3 1 0 2 0", api.Config{}, 0, api.ErrScript},
		{"config 3 1 0 2\n", api.Config{}, 0, api.ErrScript},
		{"config 3 1 0 2 ", api.Config{}, 0, api.ErrScript},
		{" config 3 1 0 2", api.Config{}, 0, api.ErrScript},
		{"config  3 1 0 2", api.Config{}, 0, api.ErrScript},
		{"Config 3 1 0 2", api.Config{}, 0, api.ErrScript},
		{"confi 3 1 0 2", api.Config{}, 0, api.ErrScript},
		{"3 1 0 2", api.Config{}, 0, api.ErrScript},
		{"config", api.Config{}, 0, api.ErrScript},
		{"tick 1", api.Config{}, 0, api.ErrScript},
		{"", api.Config{}, 0, api.ErrScript},
	} {
		if c, clients, e := script.Config(x.line); c != x.want || clients != x.clients || e != x.why {
			t.Errorf("T1: Config(%q) is %v, %d, %d, want %v, %d, %d", x.line, c, clients, int(e), x.want, x.clients, int(x.why))
		}
		checkConfig(t, x.line)
	}
}

// TestEachConfig goes through all lines of a few numbers, at and beside each edge.
func TestEachConfig(t *testing.T) {
	sizes := []int{math.MinInt, -1, 0, 1, 2, 3, 254, 255, 256, math.MaxInt}
	deltas := []int{math.MinInt, -1, 0, 1, api.MaxDelta, api.MaxDelta + 1, math.MaxInt}
	counts := []int{math.MinInt, -1, 0, 1, 254, 255, 256, 65535, math.MaxInt}
	good := 0
	for _, n := range sizes {
		for _, k := range sizes {
			for _, delta := range deltas {
				for _, clients := range counts {
					words := []string{"config"}
					for _, v := range []int{n, k, delta, clients} {
						words = append(words, strconv.Itoa(v))
					}
					good += checkConfig(t, strings.Join(words, " "))
				}
			}
		}
	}
	if want := (1 + 2 + 3 + 4 + 5) * 3 * 4; good != want {
		t.Errorf("T1: %d configs are taken, want %d", good, want)
	}
}

// TestNearConfigs changes one byte of a line, takes one out, puts one in, or cuts the line.
func TestNearConfigs(t *testing.T) {
	for _, line := range []string{"config 3 1 0 2", "config 255 255 4611686018427387903 255", "config 10 9 100 0", "config -1 1 0 -20"} {
		for i := range len(line) + 1 {
			checkConfig(t, line[:i])
			checkConfig(t, line[i:])
			for _, c := range []byte(near) {
				checkConfig(t, line[:i]+string([]byte{c})+line[i:])
			}
			if i == len(line) {
				continue
			}
			checkConfig(t, line[:i]+line[i+1:])
			for c := range 256 {
				checkConfig(t, line[:i]+string([]byte{byte(c)})+line[i+1:])
			}
		}
	}
	for _, n := range numbers() {
		for _, line := range []string{"config @ 1 0 2", "config 3 @ 0 2", "config 3 1 @ 2", "config 3 1 0 @", "config @ @ @ @", "config 3 4 0 @", "config 3 1 0 2 @"} {
			checkConfig(t, strings.ReplaceAll(line, "@", n))
		}
	}
}
