package history

import (
	"strconv"
	"strings"

	"sherd/api"
	"sherd/tag"
)

const (
	lineEnd = "\n"
	blank   = " "
	mark    = `"`
	tens    = 10

	putWord    = "put"
	getWord    = "get"
	okWord     = "ok"
	fullWord   = "full"
	absentWord = "absent"
	wrongWord  = "wrong"
)

// kindWords are a line's first words, by the event's kind.
var kindWords = [...]string{api.Invoke: "invoke", api.Return: "return", api.Cancel: "cancel"}

// Text is a history's text, a line an event.
func Text(es []api.Event) (string, api.Errno) {
	var b strings.Builder
	for _, e := range es {
		if why := fault(e); why != api.OK {
			return "", why
		}
		b.WriteString(line(e))
		b.WriteString(lineEnd)
	}
	return b.String(), api.OK
}

// line is the line, without its end, of an event that may be.
func line(e api.Event) string {
	words := []string{kindWords[e.Kind], strconv.Itoa(e.Client), strconv.FormatInt(e.Op, tens), getWord, quoted(e.Key)}
	if e.Put {
		words[3] = putWord
	}
	if e.Kind == api.Return {
		words = append(words, endWord(e.Status))
	}
	switch formOf(e) {
	case aStatusAndTag:
		words = append(words, strconv.Itoa(int(e.Status)))
		fallthrough
	case aTag:
		words = append(words, tag.Text(e.Tag))
	case aTagAndValue:
		words = append(words, tag.Text(e.Tag))
		fallthrough
	case aValue:
		words = append(words, quoted(string(e.Value)))
	}
	return strings.Join(words, blank)
}

// endWord says how an operation returned.
func endWord(status api.Errno) string {
	switch status {
	case api.OK:
		return okWord
	case api.ErrFull:
		return fullWord
	case api.ErrAbsent:
		return absentWord
	}
	return wrongWord
}

// Parse is the history with this text; the number of the first line that is none.
func Parse(s string) ([]api.Event, int, api.Errno) {
	var es []api.Event
	for s != "" {
		text, rest, ended := strings.Cut(s, lineEnd)
		e := guess(text)
		if !ended || fault(e) != api.OK || line(e) != text {
			return nil, len(es) + 1, api.ErrEvent
		}
		es = append(es, e)
		s = rest
	}
	return es, 0, api.OK
}

// guess is the one event that this may be the line of. Whether it is, that event's line tells, so that nothing is refused here.
func guess(text string) api.Event {
	r := reader{text}
	e := api.Event{}
	e.Kind = kindOf(r.word())
	e.Client = int(r.number())
	e.Op = r.number()
	e.Put = r.word() == putWord
	e.Key = string(r.bytes())
	if e.Kind == api.Return {
		e.Status = statusOf(r.word())
	}
	switch formOf(e) {
	case aStatusAndTag:
		e.Status = api.Errno(r.number())
		fallthrough
	case aTag:
		e.Tag, _ = tag.Parse(r.word())
	case aTagAndValue:
		e.Tag, _ = tag.Parse(r.word())
		fallthrough
	case aValue:
		e.Value = r.bytes()
	}
	return e
}

func kindOf(word string) int {
	for kind, w := range kindWords {
		if w == word {
			return kind
		}
	}
	return 0
}

// statusOf is, of the word wrong, one of those that are told by it: the line has the very one behind the word.
func statusOf(word string) api.Errno {
	switch word {
	case okWord:
		return api.OK
	case fullWord:
		return api.ErrFull
	case absentWord:
		return api.ErrAbsent
	}
	return api.ErrWrong
}

// reader is what is left of a line. Of what isn't there in the form that is asked for, it gives anything.
type reader struct {
	left string
}

func (r *reader) word() string {
	var word string
	word, r.left, _ = strings.Cut(r.left, blank)
	return word
}

func (r *reader) number() int64 {
	n, _ := strconv.ParseInt(r.word(), tens, 64)
	return n
}

func (r *reader) bytes() []byte {
	_, text, _ := strings.Cut(r.left, mark)
	text, r.left, _ = strings.Cut(text, mark) // a mark inside would not be written as itself
	r.word()                                  // the blank behind
	return unquoted(text)
}
