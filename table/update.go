package table

import (
	"sherd/api"
	"sherd/tag"
)

// maxFragment: a fragment is longest where one alone gives the value back: the value, and its length in four bytes.
const maxFragment = api.MaxValue + 4

// mayBe tells whether an update may be.
func mayBe(u api.Update) bool {
	e := u.Entry
	return isKey(u.Key) && tag.Valid(e.Tag) && !tag.Zero(e.Tag) && len(e.Data) <= maxFragment && fitsKind(u)
}

func isKey(key string) bool { return 1 <= len(key) && len(key) <= api.MaxKey }

// fitsKind tells whether the kind is one, and the entry has what that kind may have.
func fitsKind(u api.Update) bool {
	e := u.Entry
	switch u.Kind {
	case api.UPre:
		return !e.Fin && !e.Has
	case api.UFin:
		return !e.Fin && !e.Has && len(e.Data) == 0
	case api.UEntry:
		return e.Has || e.Fin && len(e.Data) == 0
	}
	return false
}

// bringsFragment asks an update that may be: a UPre brings one without saying so.
func bringsFragment(u api.Update) bool { return u.Kind == api.UPre || u.Entry.Has }

// finalizes asks an update that may be: a UFin does without saying so.
func finalizes(u api.Update) bool { return u.Kind == api.UFin || u.Entry.Fin }
