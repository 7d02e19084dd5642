package server

import "sherd/table"

// tally is how many entries a table has: counted anew at each update, they would make it as slow as the table is great.
type tally struct {
	keys map[string]int // of each key
	all  int
}

func tallyOf(t *table.Table) *tally {
	n := &tally{keys: map[string]int{}}
	for _, held := range t.All() {
		n.set(held.Key, len(held.Entries))
	}
	return n
}

func (n *tally) set(key string, size int) {
	n.all += size - n.keys[key]
	n.keys[key] = size
}
