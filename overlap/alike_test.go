package overlap_test

import (
	"testing"

	"pergola/overlap"
	"pergola/scope"
)

// same is a document, two of its nodes, and what is answered for them.
type same struct {
	doc             string
	a, b            int
	alike, oneShape bool
}

// P18.2: any two field nodes, whether they are a pair or not.
func TestAlikeAndOneShape(t *testing.T) {
	types := sound(t, zoo)
	for _, c := range []same{
		{"{x}", 0, 0, true, true},
		{"{f(i: 1 i: 2) {x}}", 0, 0, true, true},
		{"{nope}", 0, 0, true, true},
		{"{x y}", 0, 1, false, false},
		{"{x k: x}", 0, 1, true, true},
		{"query A {x} query B {x}", 0, 1, true, true},
		{"{self {x} x}", 1, 2, true, true},
		{"{x self {x: e}}", 0, 2, false, false},
		{"{o {x} x}", 1, 2, true, false},
		{"{o {x} p {x}}", 1, 3, true, false},
		{"{o {x(k: 1)} p {n}}", 1, 3, true, false},
		{"{n {n(k: 1)} n(k: 1)}", 1, 2, true, true},
		{"{n {n(k: 1)} n}", 1, 2, false, true},
		{"{n {__typename} u {__typename}}", 1, 3, true, true},
		{"{n {x} u {x}}", 1, 3, true, true},
		{"{u {a} x}", 1, 2, false, true},
		{"{nope {x} o {x}}", 1, 3, true, true},
		{"{nope {x(i: 1)} o {x}}", 1, 3, false, true},
		{"{o self}", 0, 1, false, true},
		{"{o n u self}", 1, 2, false, true},
		{"{z y}", 0, 1, false, false},
		{"{... on O {u} u}", 1, 2, true, false},
		{"{... on V {e} e}", 1, 2, true, false},
		{"{s: self {x} x}", 0, 2, false, false},
		{"fragment F on O {e} fragment G on M {e}", 0, 1, true, false},
		{"fragment F on V {v} fragment G on W {v}", 0, 1, true, true},
		{"{x ... {x} ...F} fragment F on Root {x}", 0, 1, false, false},
		{"{x ... {x} ...F} fragment F on Root {x}", 1, 1, false, false},
		{"{x ... {x} ...F} fragment F on Root {x}", 3, 3, false, false},
		{"{x ... {x} ...F} fragment F on Root {x}", 3, 4, false, false},
		{"{x ... {x} ...F} fragment F on Root {x}", 2, 4, true, true},
		{"{x}", 0, 1, false, false},
		{"{x}", 1, 1, false, false},
		{"{x}", -1, 0, false, false},
		{"{x}", -1, -1, false, false},
	} {
		s := scope.Lay(types, parse(t, c.doc))
		for _, pair := range [][2]int{{c.a, c.b}, {c.b, c.a}} {
			if got := overlap.Alike(s, pair[0], pair[1]); got != c.alike {
				t.Errorf("Alike of %v in %s: got %v", pair, c.doc, got)
			}
			if got := overlap.OneShape(s, pair[0], pair[1]); got != c.oneShape {
				t.Errorf("OneShape of %v in %s: got %v", pair, c.doc, got)
			}
		}
		hold(t, c.doc, types, parse(t, c.doc))
	}
}

// P18.2: numbers far away are those of no node.
func TestNumbersOfNoNode(t *testing.T) {
	s := scope.Lay(sound(t, zoo), parse(t, "{x x}"))
	for _, i := range oddNumbers() {
		want := i == 0 || i == 1
		if overlap.Alike(s, 0, i) != want || overlap.Alike(s, i, 1) != want || overlap.OneShape(s, i, 0) != want || overlap.OneShape(s, 1, i) != want {
			t.Error("a node of the number", i)
		}
	}
}
