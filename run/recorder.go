package run

import "sherd/api"

// happening is what the recorder is sent: an event that a step brought, or why the step was refused.
type happening struct {
	step    int
	refused api.Errno // OK of an event
	event   api.Event
}

// record writes down what happens, under the step that brought it, until nothing more does; then it hands over what it has written.
func record(steps int, happens <-chan happening, written chan<- []Told) {
	all := make([]Told, steps) // a step that brings nothing is never heard of, but was done
	for h := range happens {
		told := &all[h.step]
		if h.refused != api.OK {
			told.Err = h.refused
			continue
		}
		told.Events = append(told.Events, h.event)
	}
	written <- all
}
