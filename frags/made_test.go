package frags_test

import (
	"math/rand"
	"strings"
	"testing"

	"pergola/api"
	"pergola/typesys"
)

// P19.1: documents by chance, held against the model; each kind of fault is met often, and so is none.
func TestMadeByChance(t *testing.T) {
	systems := []*typesys.Types{sound(t, zoo), sound(t, zoo), sound(t, chapter)}
	kinds := map[api.Errno]int{}
	clean, few := 0, 0
	for seed := range int64(6000) {
		m := &maker{r: rand.New(rand.NewSource(seed)), types: systems[seed%3], slip: []int{3, 10, 30, 200}[seed/3%4]}
		src := m.document()
		faults := hold(t, src, m.types, parse(t, src))
		for _, f := range faults {
			kinds[f.Kind]++
		}
		switch {
		case len(faults) == 0 && strings.Contains(src, "fragment"):
			clean++
		case len(faults) > 0 && len(faults) < 3:
			few++
		}
		if t.Failed() {
			return
		}
	}
	for kind := api.ErrFragTwice; kind <= api.ErrFragNever; kind++ {
		if kinds[kind] < 300 {
			t.Error("too few of a kind:", kindText(kind), kinds[kind])
		}
	}
	if clean < 300 || few < 1000 {
		t.Error("too few with no or few faults:", clean, few)
	}
}

// P19.1: graphs of fragments by chance, with some names twice: which spreads stand on rings, held against the model.
func TestGraphsOfFragments(t *testing.T) {
	types := sound(t, zoo)
	on, off := 0, 0
	for seed := range int64(4000) {
		r := rand.New(rand.NewSource(seed))
		pick := func(words ...string) string { return words[r.Intn(len(words))] }
		names := []string{"A", "B", "C", "D", "E", "F", "G", "H", "I", "J"}[:1+r.Intn(10)]
		var out []string
		for _, name := range append(names, pick(names...), pick(names...))[:len(names)+r.Intn(3)] {
			body := pick("x ", "", "self {n {x}} ")
			for range r.Intn(3) {
				body += strings.Replace(pick("...? ", "...? ", "self {...?} ", "... on N {n {... {...?}}} "), "?", pick(names...), 1)
			}
			out = append(out, "fragment "+name+" on Root {x "+body+"}")
		}
		out = append(out, "query "+pick("A", "Q", "")+" {..."+pick(names...)+"}")
		r.Shuffle(len(out), func(i, k int) { out[i], out[k] = out[k], out[i] })
		src := strings.Join(out, "\n")
		rings := 0
		for _, f := range hold(t, src, types, parse(t, src)) {
			if f.Kind == api.ErrFragRing {
				rings++
			}
		}
		on, off = on+rings, off+strings.Count(src, "...")-rings
		if t.Failed() {
			return
		}
	}
	if on < 5000 || off < 5000 {
		t.Error("too few of a kind:", on, off)
	}
}

// P19.1: each graph of three fragments, and each of four in which none spreads itself.
func TestAllSmallGraphs(t *testing.T) {
	types := sound(t, zoo)
	for _, c := range []struct {
		names  []string
		isOpen bool // may a fragment spread itself?
	}{{[]string{"A", "B", "C"}, true}, {[]string{"A", "B", "C", "D"}, false}} {
		var steps [][2]int
		for i := range c.names {
			for k := range c.names {
				if i != k || c.isOpen {
					steps = append(steps, [2]int{i, k})
				}
			}
		}
		for choice := range 1 << len(steps) {
			bodies := make([]string, len(c.names))
			for i, step := range steps {
				if choice>>i&1 == 1 {
					bodies[step[0]] += " ..." + c.names[step[1]]
				}
			}
			src := ""
			for i, name := range c.names {
				src += "fragment " + name + " on Root {x" + bodies[i] + "}\n"
			}
			hold(t, src, types, parse(t, src))
			if t.Failed() {
				return
			}
		}
	}
}
