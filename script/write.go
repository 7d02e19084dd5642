package script

import (
	"strconv"

	"sherd/api"
)

const (
	blank      = ' '
	lineEnd    = '\n'
	noBytes    = '-'
	digits     = "0123456789abcdef"
	tens       = 10
	configWord = "config"
)

// appendStep puts the line of a step that may be behind what is written.
func appendStep(text []byte, s api.Step) []byte {
	f := forms[s.Kind]
	text = append(text, f.word...)
	if f.uses&usesA != 0 {
		text = appendNumbers(text, s.A)
	}
	if f.uses&usesB != 0 {
		text = appendNumbers(text, s.B)
	}
	if f.uses&usesKey != 0 {
		text = appendBytes(text, []byte(s.Key))
	}
	if f.uses&usesValue != 0 {
		text = appendBytes(text, s.Value)
	}
	if f.uses&usesL != 0 {
		text = appendNumbers(text, s.L...)
	}
	return text
}

func appendConfig(text []byte, c api.Config, clients int) []byte {
	text = append(text, configWord...)
	return appendNumbers(text, c.N, c.K, c.Delta, clients)
}

func appendNumbers(text []byte, numbers ...int) []byte {
	for _, n := range numbers {
		text = strconv.AppendInt(append(text, blank), int64(n), tens)
	}
	return text
}

func appendBytes(text, b []byte) []byte {
	text = append(text, blank)
	if len(b) == 0 {
		return append(text, noBytes)
	}
	for _, v := range b {
		text = append(text, digits[v>>4], digits[v&15])
	}
	return text
}
