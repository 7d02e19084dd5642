package store

import "sherd/api"

// What a number of the noise has happen to a datagram, by its rest behind a division by fates. The rest 0 has nothing happen.
const (
	lost = 1 + iota
	doubled
	turned
	heldBack
	fates
)

// hear has these be the numbers that are left, and swaps what happens to datagrams where there are none.
func (s *Store) hear(numbers []int) {
	s.noise, s.fate = numbers, s.spoil
	if len(numbers) == 0 {
		s.noise, s.fate = nil, s.deliver
	}
}

// noisy does a round in which each datagram that is in flight now has its fate.
func (s *Store) noisy() []api.Event {
	var came []api.Event
	ahead := 0 // of the next one stand those that were held back alone: what is sent meanwhile goes behind all others
	for _, p := range s.cluster.Flight() {
		stays, es := s.fate(ahead, len(p.Data))
		if stays {
			ahead++
		}
		came = append(came, es...)
	}
	s.do(api.STick, client)
	return came
}

// spoil has the next number of the noise happen to the datagram of a number in flight and of so many bytes: whether it stays there, and the events that this brought.
func (s *Store) spoil(number, size int) (bool, []api.Event) {
	c := s.noise[0]
	s.hear(s.noise[1:])
	switch modulo(c, fates) {
	case lost:
		return false, s.do(api.SDrop, number)
	case doubled:
		s.do(api.SDouble, number)
	case turned:
		s.turn(number, size, c)
	case heldBack:
		return true, nil
	}
	return s.deliver(number, size)
}

// deliver is what happens to a datagram when no noise is left.
func (s *Store) deliver(number, _ int) (bool, []api.Event) {
	return false, s.do(api.SDeliver, number)
}

// turn turns the bit of a datagram that a number of the noise names, whichever number it is.
func (s *Store) turn(number, size, c int) {
	if size > 0 {
		s.cluster.Do(api.Step{Kind: api.SBurst, A: number, B: modulo(floor(c, fates), 8*size), L: []int{1}})
	}
}

// do does a step that is not refused: a datagram of that number is in flight, or it is the client's.
func (s *Store) do(kind, number int) []api.Event {
	came, _ := s.cluster.Do(api.Step{Kind: kind, A: number})
	return came
}

// modulo is from 0 to m - 1: the language's remainder has the sign of what is divided.
func modulo(a, m int) int { return (a%m + m) % m }

// floor is the greatest whole number that is at most a / m: the language's quotient goes towards 0.
func floor(a, m int) int {
	if a%m < 0 {
		return a/m - 1
	}
	return a / m
}
