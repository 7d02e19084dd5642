package store

import (
	"sherd/api"
	"sherd/fair"
	"sherd/quorum"
)

// refusal is why an operation isn't begun. The client looks at keys and values too, but it knows nothing of servers, and these come last.
func (s *Store) refusal(key string, value []byte) api.Errno {
	switch {
	case s == nil:
		return api.ErrState
	case len(key) == 0 || len(key) > api.MaxKey:
		return api.ErrKey
	case len(value) > api.MaxValue:
		return api.ErrValue
	case s.tooFew():
		return api.ErrDown
	}
	return api.OK
}

// tooFew tells whether no quorum is up, so that nothing would come to its end.
func (s *Store) tooFew() bool {
	config, _ := s.cluster.Config()
	most, _ := quorum.Down(config) // a cluster's config may be
	return config.N-s.Up() > most
}

// operate begins an operation and does rounds until it has returned: its return. With enough servers up it does: a client whose operation is under way sends something in each round, so that the noise comes to its end, and behind it the rounds are fair.
func (s *Store) operate(begin api.Step) (end api.Event) {
	defer func() {
		if recover() != nil {
			s.cluster.Do(api.Step{Kind: api.SCancel, A: client}) // else the client were busy for ever
			end = api.Event{Status: api.ErrGone}
		}
	}()
	if _, e := s.cluster.Do(begin); e != api.OK {
		return api.Event{Status: e}
	}
	var came []api.Event // one client and one operation: the return is the only event that rounds bring
	for s.rounds = 0; len(came) == 0; s.rounds++ {
		came = s.round()
	}
	return came[0]
}

// round does the next round: the events that it brought.
func (s *Store) round() []api.Event {
	if len(s.noise) > 0 {
		return s.noisy()
	}
	came, _ := fair.Round(s.cluster, nil) // the cluster is there
	return came
}
