package linear

import (
	"bytes"
	"math/bits"
	"slices"

	"sherd/api"
)

// set is some of the calls that have a part, a bit for each: they are MaxCalls at most.
type set uint32

// nothing is the value that a Get that is ErrAbsent tells, and that stands where no Put is ahead.
const nothing = -1

// finder looks for orders of calls that all have a part.
type finder struct {
	calls  []api.Call
	values []int // of each call its value's number: alike just if the bytes are
	must   set
	ahead  []set            // of each call those that are ahead of it for sure
	behind []set            // of each call those that it is ahead of for sure
	alike  []set            // of each Get the Puts of its value, of each Put the Gets that tell it
	stuck  map[set]struct{} // from where no order can go on, as far as is known
}

func newFinder(calls []api.Call) *finder {
	f := &finder{calls: calls, stuck: map[set]struct{}{}}
	f.values = make([]int, len(calls))
	f.ahead, f.behind, f.alike = make([]set, len(calls)), make([]set, len(calls)), make([]set, len(calls))
	for i, c := range calls {
		f.values[i] = valueOf(calls, i)
		if !isOpen(c) {
			f.must |= 1 << i
		}
	}
	for i := range calls {
		for j := range calls {
			f.compare(i, j)
		}
	}
	return f
}

// compare notes what call i is to call j.
func (f *finder) compare(i, j int) {
	c, d := f.calls[i], f.calls[j]
	if !isOpen(c) && c.To >= 0 && c.To < d.From {
		f.behind[i] |= 1 << j
		f.ahead[j] |= 1 << i
	}
	if c.Put != d.Put && f.values[i] == f.values[j] {
		f.alike[i] |= 1 << j
	}
}

func isOpen(c api.Call) bool { return c.Put && c.Open }

// valueOf is the first call that has the same bytes as Value, whatever these mean there.
func valueOf(calls []api.Call, at int) int {
	if !calls[at].Put && calls[at].Status == api.ErrAbsent {
		return nothing
	}
	return slices.IndexFunc(calls, func(c api.Call) bool { return bytes.Equal(c.Value, calls[at].Value) })
}

// first is the first order that explains the calls, if one does. It is grown call by call, each the least that leaves a way to the end; and ends as soon as it may, as a beginning comes ahead of what goes on.
func (f *finder) first() ([]int, bool) {
	var order []int
	done, value := set(0), nothing
	for f.must&^done != 0 {
		next, found := f.least(done, value)
		if !found {
			return nil, false
		}
		order = append(order, next)
		done, value = done|1<<next, f.values[next] // a Get that may follow tells the value that stands
	}
	return order, true
}

// least is the least call with which an order can go on to its end.
func (f *finder) least(done set, value int) (int, bool) {
	for i := range f.calls {
		if f.mayFollow(done, value, i) && f.canEnd(done|1<<i, f.values[i]) {
			return i, true
		}
	}
	return 0, false
}

// mayFollow tells whether a call may stand behind those that are done, the value being that of the last Put of them.
func (f *finder) mayFollow(done set, value int, i int) bool {
	isNew := done&(1<<i) == 0
	fits := f.calls[i].Put || f.values[i] == value
	return isNew && fits && f.ahead[i]&^done == 0
}

// canEnd tells whether some order that begins with those that are done explains the calls. Where it is stuck it is so whatever the value: Gets come as soon as they may, so the next call is a Put.
func (f *finder) canEnd(done set, value int) bool {
	done = f.withGets(done, value)
	if f.must&^done == 0 {
		return true
	}
	if _, known := f.stuck[done]; known {
		return false
	}
	if !f.isHopeless(done) {
		for _, i := range f.choices(done) {
			if f.canEnd(done|1<<i, f.values[i]) {
				return true
			}
		}
	}
	f.stuck[done] = struct{}{}
	return false
}

// withGets adds all Gets that may come ahead of the next Put: none comes too early, as nothing hangs on a Get but what may follow it.
func (f *finder) withGets(done set, value int) set {
	for {
		more := done
		for i, c := range f.calls {
			if !c.Put && f.mayFollow(more, value, i) {
				more |= 1 << i
			}
		}
		if more == done {
			return done
		}
		done = more
	}
}

// isHopeless tells whether a Get is left whose value no Put that is left has.
func (f *finder) isHopeless(done set) bool {
	for i, c := range f.calls {
		left := done&(1<<i) == 0
		if left && !c.Put && f.alike[i]&^done == 0 {
			return true
		}
	}
	return false
}

// choices is Puts of which one comes next in some order that goes on to the end, if there is such an order at all. A Put that no Get can tell any more disturbs nobody if it comes at once, and one that is open may as well be left out. Of those of one value the one that most calls wait for can stand where any other does, and that one later on or at the end.
func (f *finder) choices(done set) []int {
	var best []int
	for i, c := range f.calls {
		if !c.Put || !f.mayFollow(done, nothing, i) {
			continue
		}
		if f.alike[i]&^done == 0 {
			if c.Open {
				continue
			}
			return []int{i}
		}
		at := slices.IndexFunc(best, func(b int) bool { return f.values[b] == f.values[i] })
		if at < 0 {
			best = append(best, i)
		} else if f.waitFor(i) > f.waitFor(best[at]) {
			best[at] = i
		}
	}
	return best
}

// waitFor is how many calls can't come ahead of this one.
func (f *finder) waitFor(i int) int { return bits.OnesCount32(uint32(f.behind[i])) }
