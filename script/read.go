package script

import (
	"strconv"

	"sherd/api"
)

// lines is how many lines a text has: what stands behind its last end is one too, if that has a byte.
func lines(text string) int {
	n, ended := 0, true
	for _, r := range text {
		ended = r == lineEnd
		if ended {
			n++
		}
	}
	if !ended {
		n++
	}
	return n
}

// cut parts a text at the first end, a rune of one byte: what stands ahead of it and what stands behind. All of it stands ahead, if there is none.
func cut(text string, end rune) (string, string) {
	for i, r := range text {
		if r == end {
			return text[:i], text[i+1:]
		}
	}
	return text, ""
}

// guess is the one step that this may be the line of. Whether it is, that step's line tells, so that nothing is refused here.
func guess(line string) api.Step {
	r := reader{line}
	s := api.Step{Kind: kindOf(r.word())}
	uses := forms[s.Kind].uses
	if uses&usesA != 0 {
		s.A = r.number()
	}
	if uses&usesB != 0 {
		s.B = r.number()
	}
	if uses&usesKey != 0 {
		s.Key = string(r.bytes())
	}
	if uses&usesValue != 0 {
		s.Value = r.bytes()
	}
	if uses&usesL != 0 {
		s.L = r.numbers()
	}
	return s
}

// guessConfig is the one config, with its number of clients, that this may be the line of.
func guessConfig(line string) (api.Config, int) {
	r := reader{line}
	r.word() // the line that is written anew has the right one
	c := api.Config{N: r.number(), K: r.number(), Delta: r.number()}
	return c, r.number()
}

// reader is what is left of a line. Of what isn't there in the form that is asked for, it gives anything.
type reader struct {
	left string
}

func (r *reader) word() string {
	var word string
	word, r.left = cut(r.left, blank)
	return word
}

func (r *reader) number() int {
	n, _ := strconv.Atoi(r.word())
	return n
}

// numbers is all that are left.
func (r *reader) numbers() []int {
	var all []int
	for r.left != "" {
		all = append(all, r.number())
	}
	return all
}

func (r *reader) bytes() []byte {
	word := r.word()
	b := make([]byte, 0, len(word)/2)
	var high byte
	for i, digit := range word {
		if i%2 == 0 {
			high = valueOf(digit)
		} else {
			b = append(b, high<<4|valueOf(digit))
		}
	}
	return b
}

func valueOf(digit rune) byte {
	if digit >= 'a' {
		return byte(digit-'a') + 10
	}
	return byte(digit - '0')
}
