package vars_test

import (
	"strconv"
	"strings"
	"testing"

	"pergola/api"
	"pergola/scope"
	"pergola/vars"
)

// numbered is a text for each number below n, in which each # is the number and each + the next one.
func numbered(n int, text string) string {
	var out strings.Builder
	for i := range n {
		out.WriteString(strings.NewReplacer("#", strconv.Itoa(i), "+", strconv.Itoa(i+1)).Replace(text))
	}
	return out.String()
}

// large is a document, and how many faults it has, all of one kind.
type large struct {
	name, doc string
	kind      api.Errno
	want      int
}

func checkLarge(t *testing.T, types string, rows []large) {
	t.Helper()
	system := sound(t, types)
	for _, r := range rows {
		s := scope.Lay(system, parse(t, r.doc))
		faults := vars.Check(s)
		for _, f := range faults {
			if f.Kind != r.kind {
				t.Errorf("%s: %s", r.name, told([]api.Fault{f}))
				break
			}
		}
		if len(faults) != r.want {
			t.Errorf("%s: got %d faults, want %d", r.name, len(faults), r.want)
		}
		for _, call := range ruleCalls() {
			if got := call.call(s); call.kind == r.kind && len(got) != r.want || call.kind != r.kind && len(got) > 0 {
				t.Errorf("%s of %s: got %d faults", call.name, r.name, len(got))
			}
		}
	}
}

const many = 20000

// P20.1: many operations reach many fragments: what they have in common isn't gone through by each of them.
func TestManyOperations(t *testing.T) {
	end := "fragment F20000 on Root {f(i: $a)} "
	row := numbered(many, "fragment F# on Root {f(i: $a) ...F+} ") + end
	backward := numbered(many, "fragment F+ on Root {f(i: $a) ...F#} ") + "fragment F0 on Root {f(i: $a)} "
	ring := numbered(many, "fragment F# on Root {f(i: $a) ...F+} ") + "fragment F20000 on Root {f(i: $a) ...F0} "
	empty := numbered(many, "fragment F# on Root {...F+} ") + end
	ladder := numbered(many, "fragment F# on Root {...F+ ... {...F+}} ") + end
	right := numbered(many, "query A# ($a: Int) {...F# ...F0} ")
	checkLarge(t, zoo, []large{
		{"a row", right + row, 0, 0},
		{"a row backward", right + backward, 0, 0},
		{"a ring", right + ring, 0, 0},
		{"a row with one use", right + empty, 0, 0},
		{"a ladder", right + ladder, 0, 0},
		{"one without a variable", right + "query {...F0} " + row, api.ErrVarNone, many + 1},
		{"one without a variable, of a ring", right + "query {...F7} " + ring, api.ErrVarNone, many + 1},
		{"all without a variable", numbered(many, "query A# {...F# ...F0} ") + empty, api.ErrVarNone, many},
		{"one that is not used", right + "query ($b: Int $a: Int) {...F0} " + row, api.ErrVarUnused, 1},
		{"none that is used", numbered(many, "query A# ($a: Int) {...F#} ") + numbered(many, "fragment F# on Root {...F+} "), api.ErrVarUnused, many},
		{"one of a wrong type", right + "query ($a: Float) {...F0} " + row, api.ErrVarPlace, many + 1},
		{"all of a wrong type", numbered(many, "query A# ($a: Float) {...F#} ") + empty, api.ErrVarPlace, many},
		{"each with a name of its own", numbered(many, "query A# ($a#: Int) {f(i: $a#) ...F#} ") + numbered(many, "fragment F# on Root {f(z: $a#)} "), 0, 0},
		{"each that lacks a name of its own", numbered(many, "query A# {...F#} ") + numbered(many, "fragment F# on Root {f(z: $a#)} "), api.ErrVarNone, many},
	})
}

// P20.1: one operation with many variables, names and uses.
func TestManyVariables(t *testing.T) {
	checkLarge(t, zoo, []large{
		{"one name", "query (" + strings.Repeat("$a: Int ", 5*many) + ") {f(i: $a)}", api.ErrVarTwice, 1},
		{"names twice", "query (" + numbered(many, "$a#: Int ") + numbered(many, "$a#: Int ") + ") {" + numbered(many, "f(i: $a#) ") + "}", api.ErrVarTwice, many},
		{"open", "query (" + numbered(many, "$a#: Nope# ") + ") {" + numbered(many, "f(i: $a#) ") + "}", api.ErrVarType, many},
		{"unused", "query (" + numbered(5*many, "$a#: Int ") + ") {x}", api.ErrVarUnused, 5 * many},
		{"undefined", "{" + numbered(5*many, "f(i: $a#) ") + "}", api.ErrVarNone, 5 * many},
		{"one undefined", "{" + strings.Repeat("f(i: $a) ", 5*many) + "}", api.ErrVarNone, 5 * many},
		{"misplaced", "query (" + numbered(many, "$a#: Int ") + ") {" + numbered(many, "f(n: $a#) ") + "}", api.ErrVarPlace, many},
		{"one misplaced", "query ($a: Int) {" + strings.Repeat("f(n: $a) ", 5*many) + "}", api.ErrVarPlace, 5 * many},
		{"right", "query (" + numbered(many, "$a#: Int ") + ") {" + numbered(many, "f(i: $a#) ") + "}", 0, 0},
	})
}

// P20.1: all operations reach all uses of all fragments, and nothing is defined: there are as many faults as pairs.
func TestManyPairs(t *testing.T) {
	const some = 500
	checkLarge(t, zoo, []large{
		{"undefined", numbered(some, "query A# {...F#} ") + numbered(some, "fragment F# on Root {f(z: $a#) ...F+} ") + "fragment F500 on Root {...F0}", api.ErrVarNone, some * some},
		{"misplaced", numbered(some, "query A# ($a: E) {...F#} ") + numbered(some, "fragment F# on Root {f(z: $a) ...F+} ") + "fragment F500 on Root {...F0}", api.ErrVarPlace, some * some},
	})
}

// P20.1: many places of unlike types.
func TestManyTypes(t *testing.T) {
	args := numbered(many, "e#: E# i#: [Int!]! = # ")
	types := "type Query {f(" + args + "): Int} " + numbered(many, "enum E# {A} ")
	checkLarge(t, types, []large{
		{"right", "query (" + numbered(many, "$e#: E# ") + " $i: [Int!]) {f(" + numbered(many, "e#: $e# i#: $i ") + ")}", 0, 0},
		{"wrong", "query ($a: E7) {f(" + numbered(many, "e#: $a ") + ")}", api.ErrVarPlace, many - 1},
		{"open", numbered(500, "query A# ($a: Nope) {...F} ") + "fragment F on Query {f(" + numbered(many, "e#: $a ") + ")}", api.ErrVarType, 500},
	})
}

// P20.1: a nil type system is built once for a call, not at each question.
func TestManyWithoutTypes(t *testing.T) {
	s := scope.Lay(nil, parse(t, "query ("+numbered(many, "$a#: E# $b#: Boolean ")+") {"+numbered(many, "a @skip(if: $b#) @include(if: $a#) ")+"}"))
	got := vars.Check(s)
	if len(got) != 2*many || got[many-1].Kind != api.ErrVarType || got[many].Kind != api.ErrVarPlace {
		t.Error("faults:", len(got))
	}
}
