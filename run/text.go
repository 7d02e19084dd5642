package run

import (
	"strconv"
	"strings"

	"sherd/api"
	"sherd/history"
	"sherd/script"
)

// Text is what a script's text tells; its first line is a config's.
func Text(text string) string {
	first, rest, _ := strings.Cut(text, "\n")
	c, clients, e := script.Config(first)
	if e != api.OK {
		return refused("config", e)
	}
	steps, at, e := script.Parse(rest)
	if e != api.OK {
		return refused("line "+strconv.Itoa(at+1), e) // the config's line is number 0
	}
	return playText(c, clients, steps)
}

func playText(c api.Config, clients int, steps []api.Step) string {
	story, e := Play(c, clients, steps)
	if e != api.OK {
		return refused("play", e)
	}
	return storyText(story)
}

func refused(what string, e api.Errno) string { return line("refused", what, number(e)) }

// storyText is what each step brought, and then what is to be said of the whole.
func storyText(s Story) string {
	var b strings.Builder
	for i, told := range s.Told {
		writeTold(&b, "step "+strconv.Itoa(i), told)
	}
	b.WriteString(line("flight", strconv.Itoa(s.Flight)))
	b.WriteString(line(append([]string{"up"}, upWords(s.Up)...)...))
	b.WriteString(line("linear", linearWord(s)))
	b.WriteString(line("tags", tagsWord(s)))
	return b.String()
}

func writeTold(b *strings.Builder, step string, told Told) {
	if told.Err != api.OK {
		b.WriteString(line(step, "refused", number(told.Err)))
	}
	events, _ := history.Text(told.Events) // a cluster brings no event that may not be
	for event := range strings.Lines(events) {
		b.WriteString(step + " " + event)
	}
}

func upWords(up []bool) []string {
	var words []string
	for _, is := range up {
		word := "0"
		if is {
			word = "1"
		}
		words = append(words, word)
	}
	return words
}

func linearWord(s Story) string {
	switch {
	case s.Heavy:
		return "heavy"
	case s.Linear:
		return "yes"
	}
	return "no"
}

func tagsWord(s Story) string {
	if s.ByTags {
		return "yes"
	}
	return "no"
}

func line(words ...string) string { return strings.Join(words, " ") + "\n" }

func number(e api.Errno) string { return strconv.Itoa(int(e)) }
