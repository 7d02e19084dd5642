package phase_test

import (
	"fmt"
	"runtime"
	"slices"
	"sync"
	"testing"
	"weak"

	"sherd/api"
	"sherd/phase"
)

// TestMissingIsNew: the caller may write into it and append to it.
func TestMissingIsNew(t *testing.T) {
	p, w := both(t, api.Config{N: 7, K: 2})
	for server := range 7 {
		a, b := p.Missing(), p.Missing()
		for i := range a[:cap(a)] {
			a[:cap(a)][i] = -9
		}
		a = append(a, -1, -2, -3)
		if !slices.Equal(b, w.missing()) {
			t.Fatalf("P17.3: two lists of Missing share memory: %v", b)
		}
		same(t, p, w, "behind writing into Missing")
		old := p.Missing()
		was := slices.Clone(old)
		say(t, p, w, line{(3 * server) % 7, "v"}, "later")
		if !slices.Equal(old, was) {
			t.Fatalf("P17.3: a list of Missing is %v behind an answer, was %v", old, was)
		}
	}
}

// TestKeptAsItIs: the phase has the very list that it was handed, with all that is written into it later; and it writes nothing into it, nor behind it.
func TestKeptAsItIs(t *testing.T) {
	p, _ := phase.New[[]byte](api.Config{N: 3, K: 1})
	room := []byte("abcdef")
	v := room[:3]
	p.Answer(1, v)
	p.Answer(0, []byte("other"))
	v[0] = 'X'
	got, has := p.Get(1)
	if !has || string(got) != "Xbc" || &got[0] != &v[0] || cap(got) != cap(v) {
		t.Errorf("P17.2: what was answered is %q, %v: it is not the list that came", got, has)
	}
	p.Each(func(server int, given []byte) bool {
		if server == 0 {
			v[1] = 'Y'
		}
		if server == 1 && (string(given) != "XYc" || &given[0] != &v[0]) {
			t.Errorf("P17.2: Each gives %q: it is not the list that came", given)
		}
		return true
	})
	p.Missing()
	p.Answer(1, []byte("gh"))
	if string(room) != "XYcdef" {
		t.Errorf("P17.2: what was handed in is %q now", room)
	}
	if got, _ := p.Get(1); string(got) != "gh" {
		t.Errorf("P17.2: the latest answer is %q", got)
	}
}

// TestEachIsThen: a struct that is handed on by Each is a copy: writing into it changes no answer.
func TestEachIsThen(t *testing.T) {
	p, _ := phase.New[[2]int](api.Config{N: 2, K: 1})
	p.Answer(0, [2]int{1, 2})
	p.Answer(1, [2]int{3, 4})
	for _, v := range p.Each {
		v[0], v[1] = 9, 9
		if v != [2]int{9, 9} {
			t.Fatal("it can't be written into")
		}
	}
	got, _ := p.Get(0)
	got[0] = 8
	if a, _ := p.Get(0); a != [2]int{1, 2} {
		t.Errorf("P17.3: what was got and written into is the phase's: %v", a)
	}
	if b, _ := p.Get(1); b != [2]int{3, 4} {
		t.Errorf("P17.4: what was given and written into is the phase's: %v", b)
	}
}

// TestConfigIsNotKept: the config is the caller's to write into.
func TestConfigIsNotKept(t *testing.T) {
	c := api.Config{N: 3, K: 1}
	p, _ := phase.New[int](c)
	c.N, c.K = 1, 1
	if len(p.Missing()) != 3 {
		t.Errorf("P17.1: the phase has %d servers, want 3", len(p.Missing()))
	}
	if first, e := p.Answer(2, 0); !first || e != api.OK || p.Met() {
		t.Errorf("P17.2: Answer is %v, %d, Met %v", first, e, p.Met())
	}
}

// TestOnlyTheLatest: of the answers of a server none but the latest is kept, and none of a number that is no server's.
func TestOnlyTheLatest(t *testing.T) {
	p, _ := phase.New[*[64]byte](api.Config{N: 2, K: 1})
	var gone []weak.Pointer[[64]byte]
	for i := range 50 {
		v := new([64]byte)
		v[0] = byte(i)
		p.Answer(0, v)
		odd := new([64]byte)
		p.Answer(2, odd)
		if i < 49 {
			gone = append(gone, weak.Make(v))
		}
		gone = append(gone, weak.Make(odd))
		p.Each(func(int, *[64]byte) bool { return true })
	}
	runtime.GC()
	kept := 0
	for _, g := range gone {
		if g.Value() != nil {
			kept++
		}
	}
	if kept > 1 { // one may still lie in a register's shadow
		t.Errorf("P17.2: %d answers that are not the latest are kept", kept)
	}
	if v, has := p.Get(0); !has || v[0] != 49 {
		t.Errorf("P17.2: the latest is %v, %v", v, has)
	}
	runtime.KeepAlive(p)
}

// TestBesideEachOther: phases of their own in many goroutines, and one that many ask.
func TestBesideEachOther(t *testing.T) {
	shared := full(31)
	var group sync.WaitGroup
	for i := range 16 {
		group.Go(func() {
			p, e := phase.New[string](api.Config{N: 31, K: 1 + i})
			if e != api.OK {
				t.Errorf("P17.1: New is %d", e)
				return
			}
			w := &paper{c: api.Config{N: 31, K: 1 + i}}
			for j := range 62 {
				server, v := (j*7+i)%31, fmt.Sprint(i, j)
				p.Answer(server, v)
				w.answer(server, v)
				if !slices.Equal(told(p), w.each()) || p.Met() != w.met() {
					t.Errorf("P17.5: beside others, behind %d answers it is another", j+1)
					return
				}
				next := 0
				for server, v := range shared.Each {
					if got, has := shared.Get(server); server != next || !has || got != v {
						t.Errorf("P17.4: asked by many, Each gives %d, %d", server, v)
						return
					}
					next++
				}
				if len(shared.Missing()) != 0 || shared.Len() != 31 || !shared.Met() {
					t.Errorf("P17.3: asked by many, it has %d", shared.Len())
				}
			}
		})
	}
	group.Wait()
}
