package history

import "strconv"

const (
	digits    = "0123456789abcdef"
	sixteens  = 16
	escape    = '\\'
	escapeLen = len(`\x00`)
)

// plain tells whether a byte is written as itself.
func plain(c byte) bool {
	return ' ' <= c && c <= '~' && c != '"' && c != escape
}

func quoted(s string) string {
	b := make([]byte, 0, len(s)+2*len(mark))
	b = append(b, mark...)
	for i := range len(s) {
		if c := s[i]; plain(c) {
			b = append(b, c)
		} else {
			b = append(b, escape, 'x', digits[c/sixteens], digits[c%sixteens])
		}
	}
	return string(append(b, mark...))
}

// unquoted is the bytes that are written so between quotation marks; any, if none are.
func unquoted(s string) []byte {
	b := make([]byte, 0, len(s))
	for len(s) > 0 {
		c, n := s[0], 1
		if c == escape && len(s) >= escapeLen {
			code, _ := strconv.ParseUint(s[escapeLen-2:escapeLen], sixteens, 8)
			c, n = byte(code), escapeLen
		}
		b = append(b, c)
		s = s[n:]
	}
	return b
}
