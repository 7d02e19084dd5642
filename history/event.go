package history

import (
	"sherd/api"
	"sherd/tag"
)

// What stands in a line behind the key, and behind the word that says how it ended.
const (
	nothing = iota
	aValue
	aTag
	aTagAndValue
	aStatusAndTag
)

// formOf is such that what a line doesn't have an event doesn't have either.
func formOf(e api.Event) int {
	switch {
	case e.Kind == api.Invoke && e.Put:
		return aValue
	case e.Kind == api.Cancel && e.Put:
		return aTag
	case e.Kind == api.Return:
		return formOfReturn(e)
	}
	return nothing
}

func formOfReturn(e api.Event) int {
	switch {
	case e.Status == api.OK && e.Put:
		return aTag
	case e.Status == api.OK:
		return aTagAndValue
	case e.Status == api.ErrAbsent || e.Status == api.ErrFull:
		return nothing
	}
	return aStatusAndTag
}

// fault is what is wrong with an event by itself: OK, if nothing is.
func fault(e api.Event) api.Errno {
	switch {
	case e.Kind != api.Invoke && e.Kind != api.Return && e.Kind != api.Cancel:
		return api.ErrKind
	case e.Client < 1 || e.Client > api.MaxClients:
		return api.ErrNode
	case len(e.Key) < 1 || len(e.Key) > api.MaxKey:
		return api.ErrKey
	case !valueMayBe(e):
		return api.ErrValue
	case !tagMayBe(e):
		return api.ErrTag
	case e.Op < 1 || e.Op > api.MaxOp || !statusMayBe(e):
		return api.ErrEvent
	}
	return api.OK
}

func valueMayBe(e api.Event) bool {
	switch formOf(e) {
	case aValue, aTagAndValue:
		return len(e.Value) <= api.MaxValue
	}
	return len(e.Value) == 0
}

func tagMayBe(e api.Event) bool {
	switch formOf(e) {
	case nothing, aValue:
		return tag.Zero(e.Tag)
	}
	told := e.Kind == api.Return && e.Status == api.OK
	return tag.Valid(e.Tag) && !(told && tag.Zero(e.Tag))
}

func statusMayBe(e api.Event) bool {
	switch {
	case e.Status == api.OK:
		return true
	case e.Kind != api.Return:
		return false
	case e.Put:
		return e.Status == api.ErrFull
	}
	return e.Status == api.ErrAbsent || e.Status >= api.ErrFew && e.Status <= api.ErrWrong // what stripe refuses
}
