package scrub

import (
	"slices"

	"sherd/api"
	"sherd/tag"
)

// maxFragment: a fragment is longest where one alone gives the value back: the value, and its length in four bytes.
const maxFragment = api.MaxValue + 4

// mayBe tells whether a table may be looked at.
func mayBe(table []api.Held, delta int) bool {
	for i, h := range table {
		if i > 0 && h.Key <= table[i-1].Key || !isHeld(h, delta) {
			return false
		}
	}
	return true
}

// isHeld tells whether a key's entries may stand in a table. That none is below the floor says of the finalized ones too that there are no more than delta + 1.
func isHeld(h api.Held, delta int) bool {
	if len(h.Key) < 1 || len(h.Key) > api.MaxKey || len(h.Entries) == 0 {
		return false
	}
	for i, e := range h.Entries {
		if i > 0 && tag.Compare(e.Tag, h.Entries[i-1].Tag) <= 0 || !isEntry(e) {
			return false
		}
	}
	return tag.Compare(h.Entries[0].Tag, floor(h.Entries, delta)) >= 0
}

func isEntry(e api.Entry) bool {
	if !tag.Valid(e.Tag) || tag.Zero(e.Tag) {
		return false
	}
	if e.Has {
		return len(e.Data) <= maxFragment
	}
	return e.Fin && len(e.Data) == 0
}

// floor is the initial tag, if no more than delta of the entries, which are by rising tags, are finalized.
func floor(entries []api.Entry, delta int) api.Tag {
	for _, e := range slices.Backward(entries) {
		if !e.Fin {
			continue
		}
		if delta == 0 {
			return e.Tag
		}
		delta--
	}
	return api.Tag{}
}
