package disk

import "bytes"

// slot is what lasts of one slot, and what was done since. Its bytes as they are now are not kept: they are made of the two, so that they can't differ from what a crash finds.
type slot struct {
	lasts []byte // this slot's alone: no other disk has them, nor any caller
	loose []act
}

// act is one that does not last yet.
type act struct {
	again func([]byte) []byte // does it on a slot's bytes, and may write behind them
	size  int                 // how many bytes it appends; none: it is a Wipe
}

// add without bytes leaves nothing that a crash could lose.
func (s *slot) add(data []byte) {
	if len(data) == 0 {
		return
	}
	own := bytes.Clone(data)
	again := func(b []byte) []byte { return append(b, own...) }
	s.loose = append(s.loose, act{again: again, size: len(own)})
}

// wipe of an empty slot is loose too: a count of what is pending tells it.
func (s *slot) wipe() {
	s.loose = append(s.loose, act{again: func([]byte) []byte { return nil }})
}

func (s *slot) sync() {
	s.lasts = redo(s.lasts, s.loose)
	s.loose = nil
}

func (s *slot) now() []byte { return redo(bytes.Clone(s.lasts), s.loose) }

// redo does these acts, one behind the other, on bytes that are the caller's alone.
func redo(b []byte, acts []act) []byte {
	for _, a := range acts {
		b = a.again(b)
	}
	return b
}

// left is what a crash leaves of the slot: the first loose acts, and of the one behind them, if it appends, the first bytes.
func (s *slot) left(rest *picks) []byte {
	whole := rest.next(len(s.loose) + 1)
	b := redo(bytes.Clone(s.lasts), s.loose[:whole])
	if whole == len(s.loose) || s.loose[whole].size == 0 {
		return b
	}
	torn := s.loose[whole]
	return torn.again(b)[:len(b)+rest.next(torn.size)]
}

// picks is what is left of a list of choices.
type picks struct {
	left []int
}

// next takes one choice among m.
func (p *picks) next(m int) int {
	if len(p.left) == 0 {
		return 0
	}
	c := p.left[0] % m
	p.left = p.left[1:]
	if c < 0 {
		c += m // the language's remainder has the sign of what is divided
	}
	return c
}
