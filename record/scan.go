package record

import (
	"bytes"

	"sherd/api"
	"sherd/pack"
)

// longest is how many bytes the greatest number has: of what may be long no more is handed to a reader, which copies it, to take one.
const longest = 9

// Scan is what stands of a log's bytes: the head, the updates, how long the log was behind the head and behind each record, why no further record stands (OK: no byte is left), a writer that goes on; or why there is no head.
func Scan(data []byte) (api.Head, []api.Update, []int, api.Errno, *Writer, api.Errno) {
	h := headAt(data)
	w, head, e := New(h)
	if e != api.OK || !bytes.HasPrefix(data, head) {
		return api.Head{}, nil, nil, api.OK, nil, api.ErrTorn
	}
	s := &scan{data: data, at: len(head), writer: w, marks: []int{len(head)}}
	why := s.run()
	return h, s.updates, s.marks, why, w, api.OK
}

// headAt is the one head with whose bytes the data may begin: whether it does, they tell when they are made again.
func headAt(data []byte) api.Head {
	r := pack.NewReader(data[:min(len(data), 1+4*longest)])
	r.Byte()
	var h api.Head
	h.Config.N = int(r.Uint(api.MaxServers))
	h.Config.K = int(r.Uint(api.MaxServers))
	h.Config.Delta = int(r.Uint(api.MaxDelta))
	h.Server = int(r.Uint(api.MaxServers))
	return h
}

// scan goes along a log's bytes: what stands ahead of at is read.
type scan struct {
	data    []byte
	at      int
	writer  *Writer
	updates []api.Update
	marks   []int
}

// run reads records as long as they stand, and is why no further one does.
func (s *scan) run() (why api.Errno) {
	defer func() {
		if reason := recover(); reason != nil {
			why = reason.(api.Errno) // the reading gives up with nothing else
		}
	}()
	for s.at < len(s.data) {
		s.step()
	}
	return api.OK
}

// step reads the next record, or gives up: nothing has changed then, for all is looked at first.
func (s *scan) step() {
	rest := s.data[s.at:]
	from, to := bodyIn(rest)
	end := sealed(s.writer.last, rest[:to])
	if !bytes.Equal(end, rest[to:to+sumSize]) {
		panic(api.ErrSum)
	}
	u := updateOf(rest[from:to])
	s.at += to + sumSize
	s.writer.goOn(end)
	s.updates = append(s.updates, u)
	s.marks = append(s.marks, s.at)
}

// bodyIn is from where to where the body lies in the record at the front of the bytes. It gives up, if there is no whole one.
func bodyIn(rest []byte) (int, int) {
	r := pack.NewReader(rest[:min(len(rest), 1+longest)])
	if r.Byte() != recordMark {
		panic(api.ErrKind)
	}
	size := int(r.Uint(api.MaxFrame))
	switch r.Err() {
	case api.OK:
	case api.ErrShort:
		panic(api.ErrShort)
	default: // in another form, or too great
		panic(api.ErrForm)
	}
	from, to := r.At(), r.At()+size
	if len(rest) < to+sumSize {
		panic(api.ErrShort)
	}
	return from, to
}

// updateOf is the update whose body these bytes are. It gives up, if they are that of none that may be.
func updateOf(body []byte) api.Update {
	r := pack.NewReader(body)
	var u api.Update
	u.Kind = int(r.Byte())
	u.Key = r.Text(api.MaxKey)
	u.Entry.Tag.Count = r.Uint(api.MaxCount)
	u.Entry.Tag.Client = int(r.Uint(api.MaxClients))
	if u.Kind == api.UEntry {
		u.Entry.Fin = r.Bool()
		u.Entry.Has = r.Bool()
	}
	if usesData(u) {
		u.Entry.Data = r.Bytes(mostData)
	}
	r.End()
	if r.Err() != api.OK || check(u) != api.OK { // the reader knows the greatest numbers alone
		panic(api.ErrForm)
	}
	return u
}
