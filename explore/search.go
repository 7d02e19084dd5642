package explore

import (
	"strconv"
	"strings"

	"sherd/api"
)

const (
	mostStates = 4096
	mostPiece  = 4096 // bytes of a piece of a State
)

// state is what two points share just if they are in the same one.
type state struct {
	cluster string // its State: the numbers of its pieces
	past    int    // the number of its history
	own     string
	drops   int
	crashes int
}

// moment is a history's last event and the number of what is ahead of it, as a value that can be compared.
type moment struct {
	ahead  int
	kind   int
	client int
	op     int64
	put    bool
	key    string
	value  string
	status api.Errno
	tag    api.Tag
}

// search is what is known of the states of a plan so far.
type search struct {
	explained func([]api.Event) bool
	met       map[state]struct{}
	pieces    map[string]int // of States, numbered: unlike states share most of them
	pasts     map[moment]int // histories, numbered from 1 on; 0 is the one without events
	report    Report
}

func newSearch(explained func([]api.Event) bool) *search {
	return &search{explained: explained, met: map[state]struct{}{}, pieces: map[string]int{}, pasts: map[moment]int{}}
}

// pass goes through the points of a level: those of the next one, the first of each state that was not met before.
func (s *search) pass(level []*point) ([]*point, api.Errno) {
	var next []*point
	for _, at := range level {
		isEnd := true
		for step := range at.choices {
			to, es, e := at.after(step)
			if e != api.OK {
				continue
			}
			isEnd = false
			if !s.meet(to, es) {
				continue
			}
			if len(s.met) > mostStates {
				return nil, api.ErrHeavy
			}
			to.made = nil // it is made again when it is asked for
			next = append(next, to)
		}
		if isEnd {
			s.report.Ends++
		}
		s.report.Deep = at.steps
	}
	return next, api.OK
}

// meet notes the state of a point whose last step brought these events, and tells whether it was not met before.
func (s *search) meet(p *point, es []api.Event) bool {
	p.past = s.pastOf(p, es)
	is := state{cluster: s.textOf(p), past: p.past, own: listed(p.own), drops: p.drops, crashes: p.crashes}
	if _, known := s.met[is]; known {
		return false
	}
	s.met[is] = struct{}{}
	s.report.States++
	return true
}

// pastOf is the number of a point's history. A history that comes for the first time is judged.
func (s *search) pastOf(p *point, es []api.Event) int {
	past, known := p.past, len(s.pasts)
	for _, e := range es {
		now := moment{past, e.Kind, e.Client, e.Op, e.Put, e.Key, string(e.Value), e.Status, e.Tag}
		if s.pasts[now] == 0 {
			s.pasts[now] = len(s.pasts) + 1
		}
		past = s.pasts[now]
	}
	if len(s.pasts) > known && len(s.report.Bad) == 0 && !s.explained(p.cluster().History()) {
		s.report.Bad = p.path()
	}
	return past
}

// textOf is a cluster's State. Its lines are cut into pieces, so that one that has grown, as logs do, shares its beginning with what it was.
func (s *search) textOf(p *point) string {
	var numbers []int
	for line := range strings.Lines(p.cluster().State()) {
		for len(line) > 0 {
			size := min(len(line), mostPiece)
			numbers = append(numbers, s.pieceOf(line[:size]))
			line = line[size:]
		}
	}
	return listed(numbers)
}

func (s *search) pieceOf(text string) int {
	number, known := s.pieces[text]
	if !known {
		number = len(s.pieces)
		s.pieces[strings.Clone(text)] = number // else all that it was cut from were held
	}
	return number
}

func listed(numbers []int) string {
	var text []byte
	for _, n := range numbers {
		text = append(strconv.AppendInt(text, int64(n), 10), ' ')
	}
	return string(text)
}
