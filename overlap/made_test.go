package overlap_test

import (
	"math/rand"
	"strings"
	"testing"

	"pergola/overlap"
	"pergola/scope"
	"pergola/typesys"
)

// P18.1 to P18.3: documents by chance, held against the model; faults are met often, and so is none where there are pairs.
func TestMadeByChance(t *testing.T) {
	systems := []*typesys.Types{sound(t, zoo), sound(t, calm), sound(t, chapter)}
	clean, faulty, apart := 0, 0, 0
	for seed := range int64(1200) {
		m := &maker{r: rand.New(rand.NewSource(seed)), types: systems[seed%3], wild: []int{2, 5, 20, 100}[seed/3%4]}
		src := m.document()
		doc := parse(t, src)
		faults := hold(t, src, m.types, doc)
		if t.Failed() {
			return
		}
		s := scope.Lay(m.types, doc)
		pairs, shapes := len(overlap.Pairs(s)), len(overlap.Shapes(s))
		switch {
		case len(faults) > 0:
			faulty++
		case pairs > 2:
			clean++
		}
		if shapes > pairs {
			apart++
		}
	}
	if clean < 150 || faulty < 400 || apart < 50 {
		t.Error("too few of a kind:", clean, faulty, apart)
	}
}

// P18.1 to P18.3: graphs of fragments by chance, flat and nested, with rings: each pair hangs on the ways that lead to both its fields.
func TestGraphsOfFragments(t *testing.T) {
	types := sound(t, zoo)
	clean, faulty := 0, 0
	for seed := range int64(1200) {
		r := rand.New(rand.NewSource(seed))
		pick := func(words ...string) string { return words[r.Intn(len(words))] }
		names := []string{"A", "B", "C", "D", "E", "F", "G", "H"}[:2+r.Intn(7)]
		spread := func() string {
			return strings.NewReplacer("?", pick(names...), "!", pick(names...)).Replace(pick("...? ", "...? ...! ", "... {...?} ", "self {...?} ", "self {...? ...!} self {...!} ", "o {...?} ", "l: self {...?} ", "... on O {self {...?}} ", "... on N {self: n {...?}} "))
		}
		src := ""
		for _, name := range names {
			src += "fragment " + name + " on " + pick("Root", "Root", "Root", "O", "N") + " {" + pick("", "", "k: x ", "k: e ", "k: n {k: x} ", "x ", "... on O {k: x} ") + spread() + pick("", "", spread()) + "}\n"
		}
		for range 1 + r.Intn(2) {
			src += "query {" + spread() + pick("", "k: x ", "self {k: x}") + "}\n"
		}
		if len(hold(t, src, types, parse(t, src))) > 0 {
			faulty++
		} else {
			clean++
		}
		if t.Failed() {
			return
		}
	}
	if clean < 150 || faulty < 400 {
		t.Error("too few of a kind:", clean, faulty)
	}
}
