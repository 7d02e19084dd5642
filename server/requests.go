package server

import "sherd/api"

// request does what one kind of request asks for, and is what the answer has beside its two ends, its operation and its key.
type request func(*Server, api.Message) (api.Message, api.Errno)

// requests has no row for a kind that is an answer.
func requests() map[int]request {
	return map[int]request{
		api.Ask:  (*Server).ask,
		api.Pre:  (*Server).pre,
		api.Fin:  (*Server).fin,
		api.Read: (*Server).read,
	}
}

func (s *Server) ask(m api.Message) (api.Message, api.Errno) {
	return api.Message{Kind: api.Told, Top: s.table.Top(m.Key)}, api.OK
}

func (s *Server) pre(m api.Message) (api.Message, api.Errno) {
	if e := s.bring(fragmentOf(m)); e != api.OK {
		return api.Message{}, e
	}
	return api.Message{Kind: api.Kept, Tag: m.Tag}, api.OK
}

func (s *Server) fin(m api.Message) (api.Message, api.Errno) {
	if e := s.bring(finalOf(m)); e != api.OK {
		return api.Message{}, e
	}
	return api.Message{Kind: api.Done, Tag: m.Tag}, api.OK
}

// read finalizes ahead of giving: who is given a fragment of a tag may tell its value, so from then on nobody may be told an older one.
func (s *Server) read(m api.Message) (api.Message, api.Errno) {
	if e := s.bring(finalOf(m)); e != api.OK {
		return api.Message{}, e
	}
	held, _ := s.table.Get(m.Key, m.Tag) // without an entry: the zero one, which has no fragment
	return api.Message{Kind: api.Gave, Tag: m.Tag, Top: s.table.Top(m.Key), Has: held.Has, Data: held.Data}, api.OK
}

// fragmentOf is the update that a Pre brings.
func fragmentOf(m api.Message) api.Update {
	return api.Update{Kind: api.UPre, Key: m.Key, Entry: api.Entry{Tag: m.Tag, Data: m.Data}}
}

// finalOf is the update that a Fin or a Read brings.
func finalOf(m api.Message) api.Update {
	return api.Update{Kind: api.UFin, Key: m.Key, Entry: api.Entry{Tag: m.Tag}}
}
