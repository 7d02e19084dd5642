package tag

import (
	"slices"
	"sort"

	"sherd/api"
)

// Set is a set of tags.
type Set struct {
	tags []api.Tag // rising, each once
}

// NewSet is the set of these.
func NewSet(ts ...api.Tag) (*Set, api.Errno) {
	for _, t := range ts {
		if !proper(t) {
			return nil, api.ErrTag
		}
	}
	tags := slices.Clone(ts)
	slices.SortFunc(tags, Compare)
	return &Set{tags: slices.Compact(tags)}, api.OK
}

// place is where t stands, or would: how many are ahead of it.
func (s *Set) place(t api.Tag) int {
	return sort.Search(len(s.tags), func(i int) bool { return Compare(s.tags[i], t) >= 0 })
}

// at tells whether t stands at that place.
func (s *Set) at(place int, t api.Tag) bool {
	return place < len(s.tags) && s.tags[place] == t
}

// Add puts one in, and tells whether it is new.
func (s *Set) Add(t api.Tag) (bool, api.Errno) {
	if s == nil {
		return false, api.OK
	}
	if !proper(t) {
		return false, api.ErrTag
	}
	place := s.place(t)
	if s.at(place, t) {
		return false, api.OK
	}
	s.tags = slices.Insert(s.tags, place, t)
	return true, api.OK
}

// Has tells whether it is in.
func (s *Set) Has(t api.Tag) bool { return s != nil && s.at(s.place(t), t) }

// Len is how many there are.
func (s *Set) Len() int {
	if s == nil {
		return 0
	}
	return len(s.tags)
}

// High is the i-th of the highest ones, from 0 on.
func (s *Set) High(i int) (api.Tag, api.Errno) {
	if s == nil {
		return api.Tag{}, api.OK
	}
	if i < 0 || i >= len(s.tags) {
		return api.Tag{}, api.ErrNone
	}
	return s.tags[len(s.tags)-1-i], api.OK
}

// From is those of at least t, rising.
func (s *Set) From(t api.Tag) []api.Tag {
	if s == nil {
		return nil
	}
	return slices.Clone(s.tags[s.place(t):])
}

// Cut takes all below t out, and tells how many.
func (s *Set) Cut(t api.Tag) int {
	if s == nil {
		return 0
	}
	out := s.place(t)
	s.tags = s.tags[out:] // not moved down: a set from which few are cut at a time would be copied each time
	return out
}
