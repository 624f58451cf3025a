package frags_test

import (
	"strconv"
	"strings"
	"testing"

	"pergola/api"
	"pergola/frags"
	"pergola/scope"
)

// numbered is a text for each number below n, in which each # is the number and each + the next one.
func numbered(n int, text string) string {
	var out strings.Builder
	for i := range n {
		out.WriteString(strings.NewReplacer("#", strconv.Itoa(i), "+", strconv.Itoa(i+1)).Replace(text))
	}
	return out.String()
}

// large is a document, and how many faults it has, all of one kind.
type large struct {
	name, doc string
	kind      api.Errno
	want      int
}

func checkLarge(t *testing.T, types string, rows []large) {
	t.Helper()
	system := sound(t, types)
	for _, r := range rows {
		faults := frags.Check(scope.Lay(system, parse(t, r.doc)))
		for _, f := range faults {
			if f.Kind != r.kind {
				t.Errorf("%s: %s", r.name, told([]api.Fault{f}))
				break
			}
		}
		if len(faults) != r.want {
			t.Errorf("%s: got %d faults, want %d", r.name, len(faults), r.want)
		}
	}
}

// P19.1: each fragment reaches all others, or all behind it; the work grows with the document, not with the ways through it.
func TestManyFragments(t *testing.T) {
	const many = 50000
	ladder := numbered(many, "fragment F# on Root {...F+ ... {...F+}} ")
	row := numbered(many, "fragment F# on Root {...F+} ")
	backward := numbered(many, "fragment F+ on Root {...F#} ")
	checkLarge(t, zoo, []large{
		{"a row", "{...F0} " + row + "fragment F50000 on Root {x}", 0, 0},
		{"a row backward", "{...F50000} " + backward + "fragment F0 on Root {x}", 0, 0},
		{"a ladder", "{...F0} " + ladder + "fragment F50000 on Root {x}", 0, 0},
		{"a ring", "{...F0} " + row + "fragment F50000 on Root {...F0}", api.ErrFragRing, many + 1},
		{"a ring backward", "{...F0} " + backward + "fragment F0 on Root {...F50000}", api.ErrFragRing, many + 1},
		{"a ring of a ladder", "{...F0} " + ladder + "fragment F50000 on Root {...F0}", api.ErrFragRing, 2*many + 1},
		{"a row that ends in a ring", "{...F0} " + row + "fragment F50000 on Root {...F49999}", api.ErrFragRing, 2},
		{"rings in a row", "{...F0} " + numbered(many, "fragment F# on Root {...F# ...F+} ") + "fragment F50000 on Root {x}", api.ErrFragRing, many},
		{"a double row", "{...F0} " + numbered(many, "fragment F# on Root {...G# ...F+} fragment G# on Root {...F#} ") + "fragment F50000 on Root {x}", api.ErrFragRing, 2 * many},
		{"a star", "{...F} fragment F on Root {" + numbered(many, "...F# ") + "} " + numbered(many, "fragment F# on Root {...F} "), api.ErrFragRing, 2 * many},
		{"one often", "{...F} fragment F on Root {" + strings.Repeat("...F ", 4*many) + "}", api.ErrFragRing, 4 * many},
		{"two names", "{...F ...G} fragment F on Root {" + strings.Repeat("...G ", many) + "} fragment G on Root {" + strings.Repeat("...F ", many) + "}", api.ErrFragRing, 2 * many},
	})
}

// P19.1: many fragments of one name, many names, many spreads without a target.
func TestManyNames(t *testing.T) {
	const many = 50000
	checkLarge(t, zoo, []large{
		{"one name", "{...F} " + strings.Repeat("fragment F on Root {x} ", many), api.ErrFragTwice, 1},
		{"many names twice", "{" + numbered(many, "...F# ") + "} " + numbered(many, "fragment F# on Root {x} ") + numbered(many, "fragment F# on Root {x} "), api.ErrFragTwice, many},
		{"unused", "{x} " + numbered(many, "fragment F# on Root {x} "), api.ErrFragUnused, many},
		{"without a target", "{" + numbered(many, "...F# ") + "}", api.ErrFragNone, many},
		{"no types", "{" + numbered(many, "... on T# {x} ") + "}", api.ErrFragType, many},
		{"no composite type", "{" + strings.Repeat("... on In {x} ", many) + "}", api.ErrFragKind, many},
	})
}

// P19.1: great types that share no object are held against each other once, though they stand around each other often.
func TestGreatTypes(t *testing.T) {
	const many = 10000
	members := func(prefix string) string {
		return strings.TrimSuffix(numbered(many, prefix+"# | "), "| ")
	}
	objects := numbered(many, "type A# implements I {x: Int} type B# {x: Int} ")
	checkLarge(t, "type Query {u: U v: V i: I} interface I {x: Int} union U = "+members("A")+" union V = "+members("B")+" "+objects, []large{
		{"inline", "{u {" + strings.Repeat("... on V {__typename} ", 2*many) + "} i {" + strings.Repeat("... on V {__typename} ", many) + "}}", api.ErrFragNever, 3 * many},
		{"spreads", "{u {" + strings.Repeat("...F ", 2*many) + "}} fragment F on V {... on V {__typename}}", api.ErrFragNever, 2 * many},
		{"that meet", "{u {" + strings.Repeat("... on I {x} ", 2*many) + "}}", 0, 0},
		{"all objects", "{u {" + numbered(many, "... on A# {x} ... on B# {x} ") + "}}", api.ErrFragNever, many},
	})
}

// P19.1: many pairs of types that share no object.
func TestManyGreatTypes(t *testing.T) {
	const many = 150
	union := func(name, prefix string) string {
		return numbered(many, "union "+name+"# = "+strings.TrimSuffix(numbered(many, prefix+"# | "), "| ")+" ")
	}
	types := "type Query {" + numbered(many, "u#: U# ") + "} " + union("U", "A") + union("V", "B") + numbered(many, "type A# {x: Int} type B# {x: Int} ")
	inside := numbered(many, "... on V# {__typename} ")
	checkLarge(t, types, []large{{"crosswise", "{" + numbered(many, "u# {"+inside+"} ") + "}", api.ErrFragNever, many * many}})
}

// P19.1: a nil type system is built once for a call, not at each question.
func TestManyWithoutTypes(t *testing.T) {
	const many = 50000
	s := scope.Lay(nil, parse(t, "{"+strings.Repeat("... on __Type {... on __Schema {a}} ", many)+"}"))
	if got := frags.Check(s); len(got) != many || got[0].Kind != api.ErrFragNever {
		t.Error("faults:", len(got))
	}
}
