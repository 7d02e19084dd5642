package frame

import (
	"sherd/api"
	"sherd/pack"
	"sherd/tag"
)

// What a message may use beside what all have.
const (
	usesTag = 1 << iota
	usesTop
	usesHas
	usesData
)

// uses has what each kind uses; there is no kind 0.
var uses = [...]uint8{
	api.Ask:  0,
	api.Told: usesTop,
	api.Pre:  usesTag | usesData,
	api.Kept: usesTag,
	api.Fin:  usesTag,
	api.Done: usesTag,
	api.Read: usesTag,
	api.Gave: usesTag | usesTop | usesHas | usesData,
}

// usedIn is what this very message uses: a kind that tells whether it has data uses data only where it says yes. The kind is one that may be.
func usedIn(m api.Message) uint8 {
	used := uses[m.Kind]
	if used&usesHas != 0 && !m.Has {
		used &^= usesData
	}
	return used
}

// filled is what of the message is not zero.
func filled(m api.Message) uint8 {
	var all uint8
	if !tag.Zero(m.Tag) {
		all |= usesTag
	}
	if !tag.Zero(m.Top) {
		all |= usesTop
	}
	if m.Has {
		all |= usesHas
	}
	if len(m.Data) > 0 {
		all |= usesData
	}
	return all
}

// part is one of the things that a message may use, with how it is put into a frame and taken out.
type part struct {
	flag  uint8
	write func(w *pack.Writer, m api.Message)
	read  func(r *pack.Reader, m *api.Message)
}

// parts are all of them, in the order in which they stand in a frame.
func parts() [4]part {
	return [...]part{
		{
			flag:  usesTag,
			write: func(w *pack.Writer, m api.Message) { writeTag(w, m.Tag) },
			read:  func(r *pack.Reader, m *api.Message) { m.Tag = readTag(r) },
		},
		{
			flag:  usesTop,
			write: func(w *pack.Writer, m api.Message) { writeTag(w, m.Top) },
			read:  func(r *pack.Reader, m *api.Message) { m.Top = readTag(r) },
		},
		{
			flag:  usesHas,
			write: func(w *pack.Writer, m api.Message) { w.Bool(m.Has) },
			read:  func(r *pack.Reader, m *api.Message) { m.Has = r.Bool() },
		},
		{
			flag:  usesData,
			write: func(w *pack.Writer, m api.Message) { w.Bytes(m.Data) },
			read:  func(r *pack.Reader, m *api.Message) { m.Data = r.Bytes(mostData) },
		},
	}
}

func writeTag(w *pack.Writer, t api.Tag) {
	w.Uint(t.Count)
	w.Uint(int64(t.Client))
}

func readTag(r *pack.Reader) api.Tag {
	return api.Tag{Count: r.Uint(api.MaxCount), Client: int(r.Uint(api.MaxClients))}
}
