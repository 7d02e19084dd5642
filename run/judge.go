package run

import (
	"sherd/api"
	"sherd/history"
	"sherd/linear"
	"sherd/order"
)

// isLinear tells whether a history can be explained, and whether it is too heavy to be gone through.
func isLinear(es []api.Event) (explained, heavy bool) {
	_, explained, e := linear.All(es)
	return explained, e == api.ErrHeavy
}

// isByTags tells whether of each key the order that the tags tell explains its calls.
func isByTags(es []api.Event) bool {
	calls, e := history.Calls(es)
	if e != api.OK {
		return false
	}
	for _, key := range history.Keys(es) {
		of := callsOf(calls, key)
		byTags, e := order.ByTags(of)
		if e != api.OK || order.Check(of, byTags) != api.OK {
			return false
		}
	}
	return true
}

// callsOf is the calls of a key. They are taken out of all calls, not made of the key's events: these alone need not be a history.
func callsOf(calls []api.Call, key string) []api.Call {
	var of []api.Call
	for _, c := range calls {
		if c.Key == key {
			of = append(of, c)
		}
	}
	return of
}
