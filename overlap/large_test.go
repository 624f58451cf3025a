package overlap_test

import (
	"strconv"
	"strings"
	"testing"

	"pergola/overlap"
	"pergola/scope"
	"pergola/typesys"
)

// numbered is a text for each number below n, in which each # is the number and each + the next one.
func numbered(n int, text string) string {
	var out strings.Builder
	for i := range n {
		out.WriteString(strings.NewReplacer("#", strconv.Itoa(i), "+", strconv.Itoa(i+1)).Replace(text))
	}
	return out.String()
}

// herd is an interface with many objects.
func herd(t *testing.T, n int) *typesys.Types {
	return sound(t, "type Query {i: I} interface I {a: Int b: I c: Int!} "+numbered(n, "type T# implements I {a: Int b: I c: Int!} "))
}

// large is a document, and how many faults it has.
type large struct {
	name, doc string
	want      int
}

func checkLarge(t *testing.T, types *typesys.Types, rows []large) {
	t.Helper()
	for _, r := range rows {
		if got := len(overlap.Check(scope.Lay(types, parse(t, r.doc)))); got != r.want {
			t.Errorf("%s: got %d faults, want %d", r.name, got, r.want)
		}
	}
}

// P18.3: documents with far more pairs than could be gone through one by one.
func TestManyFieldsOfOneKey(t *testing.T) {
	const many = 30000
	nest := "x"
	for range 10 {
		nest = "self {" + nest + "} self {" + nest + "} self {" + nest + "}"
	}
	checkLarge(t, sound(t, zoo), []large{
		{"one field", "{" + strings.Repeat("x ", 5*many) + "}", 0},
		{"one field, and another at last", "{" + strings.Repeat("x ", 5*many) + "x: e}", 1},
		{"one field, and another at first", "{x: e " + strings.Repeat("x ", many) + "}", many},
		{"two fields by turns", "{" + strings.Repeat("k: x k: e ", many) + "}", 2*many - 1},
		{"fields with braces", "{" + strings.Repeat("self {x} ", many) + "}", 0},
		{"fields with braces and clashes", "{" + strings.Repeat("self {x} ", many) + "self {x: e}}", 1},
		{"fields with many keys", "{" + numbered(many, "self {k#: x} ") + "}", 0},
		{"many fields within many", "{" + nest + "}", 0},
		{"inline fragments", "{" + strings.Repeat("... {x} ... on N {n {n {__typename}}} ", many) + "}", 0},
		{"unlike arguments", "{" + numbered(many, "k: f(i: #) {x} ") + "}", many - 1},
		{"unlike lists", "{" + numbered(many, "k: f(l: [1 # 2]) {x} ") + "}", many - 1},
		{"unlike objects", "{" + numbered(many, "k: f(j: {a: 1 b: {a: #}}) {x} ") + "}", many - 1},
		{"like objects", "{" + strings.Repeat("k: f(j: {a: 1 d: 2}) {x} k: f(j: {d: 2 a: 1}) {x} ", many) + "}", 0},
		{"many arguments", "{" + strings.Repeat("k: f("+numbered(many, "i#: 1 ")+") {x} ", 2) + "}", 0},
		{"many arguments, of which one is another", "{k: f(" + numbered(many, "i#: 1 ") + "i: 1) {x} k: f(" + numbered(many, "i#: 1 ") + "i: 2) {x}}", 1},
	})
}

// P18.3: documents with many fragments, in which more ways lead to fields than could be gone.
func TestManyFragments(t *testing.T) {
	const many = 10000
	own := numbered(many, "fragment F# on Root {self {x}} ")
	checkLarge(t, sound(t, zoo), []large{
		{"in one place", "{" + numbered(many, "...F# ") + "} " + own, 0},
		{"in one place, and a clash", "{" + numbered(many, "...F# ") + "self {x: e}} " + own, many},
		{"in two places", "{k: self {" + numbered(many, "...F# ") + "} l: self {" + numbered(many, "...F# ") + "}} " + own, 0},
		{"in two operations", "query A {" + numbered(many, "...F# ") + "} query B {" + numbered(many, "...F# ") + "} " + own, 0},
		{"together and each alone", "{" + numbered(many, "...F# k#: self {...F#} ") + "} " + own, 0},
		{"one behind the other", "{...F0} " + numbered(many, "fragment F# on Root {self {x} ...F+} ") + "fragment F10000 on Root {self {x: e}}", 1},
		{"one within the other", "{...F0} " + numbered(many, "fragment F# on Root {x self {...F+}} ") + "fragment F10000 on Root {x x: e}", 1},
		{"a ladder", "{...F0} " + numbered(many, "fragment F# on Root {...F+ ... {...F+}} ") + "fragment F10000 on Root {x x: e}", 1},
		{"a ladder of braces", "{...F0} " + numbered(many, "fragment F# on Root {self {...F+} self {...F+} k: self {...F+}} ") + "fragment F10000 on Root {x x: e}", 1},
		{"a ring", "{...F0} " + numbered(many, "fragment F# on Root {self {...F+} k: self {...F+} x} ") + "fragment F10000 on Root {x self {...F0}}", 0},
		{"a small ring with much room", "{...F " + strings.Repeat("x ", 10*many) + "} fragment F on Root {self {...F}}", 0},
		{"one in many places", "{" + numbered(2*many, "k#: self {x ...F} ") + "} fragment F on Root {" + numbered(2*many, "l#: x ") + "x: e}", 1},
		{"one in many places, ahead", "fragment F on Root {" + numbered(2*many, "l#: x ") + "x: e} {" + numbered(2*many, "k#: self {x ...F} ") + "}", 2 * many},
		{"two in many places", "{" + numbered(2*many, "k#: self {x ...F ...G} ") + "} fragment F on Root {" + numbered(many, "l#: x ") + "} fragment G on Root {" + numbered(many, "l#: x ") + "}", 0},
	})
}

// P18.3: many object types, of which no two may meet, but each may meet the interface.
func TestManyObjects(t *testing.T) {
	const many = 10000
	types := herd(t, many)
	checkLarge(t, types, []large{
		{"apart", "{i {" + numbered(many, "... on T# {k: a b {a}} ") + "}}", 0},
		{"apart, with one more of the last", "{i {" + numbered(many, "... on T# {k: a b {a}} ") + "... on T9999 {k: b {a}}}}", 1},
		{"each with the interface", "{i {" + numbered(many, "... on T# {b {k: a}} ") + "b {k: b {a}}}}", 1},
		{"the interface ahead", "{i {b {k: c} " + numbered(many, "... on T# {b {k: a}} ") + "}}", many},
	})
}

// P18.3: each of many is held against each of many others. These are as many pairs as there seem to be.
func TestManyAgainstMany(t *testing.T) {
	const many = 1500
	checkLarge(t, herd(t, many), []large{
		{"crosswise", "{i {b {" + numbered(many, "... on T# {b {k: a}} ") + "} " + numbered(many, "... on T# {b {b {k: a}}} ") + "}}", 0},
	})
	checkLarge(t, sound(t, zoo), []large{
		{"rings", "{" + numbered(500, "...F# ") + "} " + numbered(500, "fragment F# on Root {self {x ...F#} ...F#} "), 0},
		{"rungs", "{...F0} " + numbered(500, "fragment F# on Root {self {x ...F+} self {...F+} k: self {...F+} ...F+} "), 0},
	})
}

// P18.1: pairs are told once, though many ways lead to them.
func TestManyPairs(t *testing.T) {
	const many = 1500
	types := sound(t, zoo)
	for _, r := range []large{
		{"one fragment in many places", "{" + strings.Repeat("self {...F} ", many) + "} fragment F on Root {" + strings.Repeat("x ", many) + "}", many * (many - 1)},
		{"many fragments in one place", "{" + numbered(many, "...F# ") + "} " + numbered(many, "fragment F# on Root {k#: x self {...G}} ") + "fragment G on Root {x x}", many*(many-1)/2 + 1},
		{"many fragments without a key in common", "{" + numbered(10*many, "...F# ") + "} " + numbered(10*many, "fragment F# on Root {k#: x} "), 0},
	} {
		s := scope.Lay(types, parse(t, r.doc))
		if got := len(overlap.Pairs(s)); got != r.want {
			t.Errorf("%s: got %d pairs, want %d", r.name, got, r.want)
		}
		if got := len(overlap.Shapes(s)); got != r.want {
			t.Errorf("%s: got %d shapes, want %d", r.name, got, r.want)
		}
	}
}
