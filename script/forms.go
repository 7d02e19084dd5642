package script

import "sherd/api"

// What a line may have behind its first word, in the order in which it stands there.
const (
	usesA = 1 << iota
	usesB
	usesKey
	usesValue
	usesL
)

// form is how the lines of a kind of step are made: their first word, and what they have of the step behind it.
type form struct {
	word string
	uses uint8
}

// forms has each kind's; there is no kind 0.
var forms = [...]form{
	api.SPut:     {"put", usesA | usesKey | usesValue},
	api.SGet:     {"get", usesA | usesKey},
	api.SCancel:  {"cancel", usesA},
	api.STick:    {"tick", usesA},
	api.SStop:    {"stop", usesA},
	api.SDeliver: {"deliver", usesA},
	api.SDrop:    {"drop", usesA},
	api.SDouble:  {"double", usesA},
	api.SBurst:   {"burst", usesA | usesB | usesL},
	api.SCut:     {"cut", usesA | usesB},
	api.SLose:    {"lose", usesA},
	api.SCrash:   {"crash", usesA | usesL},
	api.SStart:   {"start", usesA},
	api.SDie:     {"die", usesA | usesB | usesL},
	api.SCompact: {"compact", usesA},
	api.SRound:   {"round", usesB | usesL},
}

// kindOf is the kind whose lines begin with this word; 0, if none do.
func kindOf(word string) int {
	for kind, f := range forms {
		if f.word == word {
			return kind
		}
	}
	return 0
}

// filled is what of the step is not zero.
func filled(s api.Step) uint8 {
	var all uint8
	if s.A != 0 {
		all |= usesA
	}
	if s.B != 0 {
		all |= usesB
	}
	if len(s.Key) > 0 {
		all |= usesKey
	}
	if len(s.Value) > 0 {
		all |= usesValue
	}
	if len(s.L) > 0 {
		all |= usesL
	}
	return all
}
