package table

import (
	"bytes"
	"maps"
	"slices"

	"sherd/api"
	"sherd/tag"
)

// row is what is held of one key. The zero row, of a key without entries, can be asked, but not changed.
type row struct {
	tags   map[api.Tag]hold
	finals *tag.Set // the finalized ones of tags: else each question for top and floor would go through all
}

// hold is what is held of one tag.
type hold struct {
	fin  bool
	has  bool
	data []byte // never written into once it is here: copies of a table share it
}

func newRow() row {
	finals, _ := tag.NewSet()
	return row{tags: map[api.Tag]hold{}, finals: finals}
}

// entry has data of its own, for the caller may write into it.
func (h hold) entry(g api.Tag) api.Entry {
	return api.Entry{Tag: g, Fin: h.fin, Has: h.has, Data: bytes.Clone(h.data)}
}

// top is the initial tag where the set has none.
func (r row) top() api.Tag {
	t, _ := r.finals.High(0)
	return t
}

// floor is the initial tag where the set has no more than delta.
func (r row) floor(delta int) api.Tag {
	t, _ := r.finals.High(delta)
	return t
}

// lack is what of an update would be new in a row.
type lack struct {
	fragment, final bool
}

// lacks answers for both halves of an update at once: that a fragment came changes neither the floor nor what is finalized.
func (r row) lacks(u api.Update, delta int) lack {
	g := u.Entry.Tag
	if tag.Compare(g, r.floor(delta)) < 0 {
		return lack{}
	}
	h := r.tags[g]
	return lack{fragment: bringsFragment(u) && !h.has, final: finalizes(u) && !h.fin}
}

// change does an update in a row that is not the zero one.
func (r row) change(u api.Update, delta int) {
	g, l := u.Entry.Tag, r.lacks(u, delta)
	h := r.tags[g]
	if l.fragment {
		h.has, h.data = true, bytes.Clone(u.Entry.Data)
	}
	h.fin = h.fin || l.final
	r.tags[g] = h
	if l.final {
		r.finals.Add(g)
		r.throwAway(r.floor(delta))
	}
}

// throwAway leaves nothing below the floor.
func (r row) throwAway(floor api.Tag) {
	if tag.Zero(floor) { // nothing is below: a row that keeps all is not gone through at each finalizing
		return
	}
	r.finals.Cut(floor)
	for g := range r.tags {
		if tag.Compare(g, floor) < 0 {
			delete(r.tags, g)
		}
	}
}

// entries sorts what the map gives in any order.
func (r row) entries() []api.Entry {
	es := make([]api.Entry, 0, len(r.tags))
	for g, h := range r.tags {
		es = append(es, h.entry(g))
	}
	slices.SortFunc(es, func(a, b api.Entry) int { return tag.Compare(a.Tag, b.Tag) })
	return es
}

func (r row) fragments() int {
	count := 0
	for _, h := range r.tags {
		if h.has {
			count++
		}
	}
	return count
}

// copy is of a row that is not the zero one.
func (r row) copy() row {
	finals, _ := tag.NewSet(r.finals.From(api.Tag{})...)
	return row{tags: maps.Clone(r.tags), finals: finals}
}
