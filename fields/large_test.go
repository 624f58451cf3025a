package fields_test

import (
	"strconv"
	"strings"
	"testing"

	"pergola/api"
	"pergola/fields"
	"pergola/scope"
)

// numbered is a text for each number below n, in which each # is the number and each + the next one.
func numbered(n int, text string) string {
	var out strings.Builder
	for i := range n {
		out.WriteString(strings.NewReplacer("#", strconv.Itoa(i), "+", strconv.Itoa(i+1)).Replace(text))
	}
	return out.String()
}

// count are the faults of each kind.
func count(faults []api.Fault) map[api.Errno]int {
	kinds := map[api.Errno]int{}
	for _, f := range faults {
		kinds[f.Kind]++
	}
	return kinds
}

// P17.2: two ways lead from each fragment to the next, so that there are more ways than could be gone.
func TestManyWays(t *testing.T) {
	const many = 5000
	types := sound(t, zoo)
	ladder := numbered(many, "fragment F# on Feed {...F+ ... {...F+}} ")
	for _, c := range []struct{ doc, want string }{
		{"subscription {...F0} " + ladder + "fragment F5000 on Feed {o {a}}", ""},
		{"subscription {...F0} " + ladder + "fragment F5000 on Feed {o {a} x: o {a}}", "OpSingle 1:1"},
		{"subscription {...F0} " + ladder + "fragment F5000 on Feed {o {a} ...F0}", ""},
		{"subscription {...F0} " + ladder + "fragment F5000 on Feed {...F0}", "OpSingle 1:1"},
		{"subscription {o {a} ...F0} " + ladder + "fragment F5000 on Feed {x: o {a}}", "OpSingle 1:1"},
	} {
		if got := told(fields.Check(scope.Lay(types, parse(t, c.doc)))); got != c.want {
			t.Errorf("%.60s: got %s, want %s", c.doc, got, c.want)
		}
	}
}

// P17.2: many subscriptions spread one great fragment, and each the beginning of a long row of them.
func TestManySubscriptions(t *testing.T) {
	const many = 20000
	types := sound(t, zoo)
	great := "fragment F on Feed {" + strings.Repeat("o{a} ", 5*many) + "}"
	doc := numbered(many, "subscription S# {...F} ") + great
	if got := told(fields.Check(scope.Lay(types, parse(t, doc)))); got != "" {
		t.Errorf("one great fragment: %.200s", got)
	}
	for _, row := range []string{
		numbered(many, "fragment F# on Feed {...F+} ") + "fragment F20000 on Feed {",
		numbered(many, "fragment F+ on Feed {...F#} ") + "fragment F0 on Feed {",
	} {
		for _, c := range []struct {
			end  string
			want int
		}{{"o {a}}", 0}, {"o {a} ...F0 ...F20000}", 0}, {"o {a} v {__typename}}", many}, {"...Nope}", many}} {
			doc := numbered(many, "subscription S# {...F# ...F7 ...F20000 ...F0} ") + row + c.end
			got := fields.Operations(scope.Lay(types, parse(t, doc)))
			if len(got) != c.want || count(got)[api.ErrOpSingle] != c.want {
				t.Errorf("a row that ends with %s: %d faults", c.end, len(got))
			}
		}
	}
}

// P17.2: a field, a directive, an enum and input types with many parts, each used many times: none is copied or gone through at each use.
func TestManyParts(t *testing.T) {
	const many = 20000
	inputs := numbered(many, "a#: Int ")
	types := sound(t, "type Query {f("+inputs+" p: P e: E r: Int!): Int g: [Query]} input P {"+inputs+" p: P r: Int!} enum E {"+numbered(many, "V# ")+"} directive @d("+inputs+" p: [P] e: E! r: Int!) repeatable on FIELD")
	doc := "{" + strings.Repeat("f(a7: 1 p: {a8: A r: 1 p: {}} e: V9 nope: 1) @d(a9: 1 a9: 2 r: 1 p: {} e: Nope) ", many) + "}"
	got := count(fields.Check(scope.Lay(types, parse(t, doc))))
	want := map[api.Errno]int{api.ErrArgNone: many, api.ErrArgSame: many, api.ErrArgMissing: many, api.ErrValue: 2 * many, api.ErrInFieldMissing: 2 * many}
	for kind := range want {
		if got[kind] != want[kind] {
			t.Errorf("%s: got %d, want %d", kindText(kind), got[kind], want[kind])
		}
	}
	if len(got) != len(want) {
		t.Error("kinds:", got)
	}
}

// wraps are many marks, all unlike.
func wraps(n int) []string {
	out := []string{""}
	for i := 0; len(out) < n; i++ {
		out = append(out, out[i]+"]")
		if !strings.HasSuffix(out[i], "!") {
			out = append(out, out[i]+"!]")
		}
	}
	return out[:n]
}

// P17.2: many places with types that are unlike, but for their name.
func TestManyTypesOfOneName(t *testing.T) {
	const many = 20000
	types := sound(t, "type Query {a: Int} enum E {"+numbered(many, "V# ")+"}")
	var vars strings.Builder
	for i, wrap := range wraps(many) {
		name := "$v" + strconv.Itoa(i) + ": "
		written := strings.Repeat("[", strings.Count(wrap, "]")) + "E" + wrap
		vars.WriteString(name + written + " = " + []string{"V1", "Nope"}[i%2] + " ")
	}
	got := fields.Check(scope.Lay(types, parse(t, "query ("+vars.String()+") {a}")))
	if len(got) != many/2 || count(got)[api.ErrValue] != many/2 {
		t.Error("faults:", len(got))
	}
}

// P17.2: many things of one name, and many names, at one thing.
func TestManyOfOneName(t *testing.T) {
	const many = 20000
	types := sound(t, zoo)
	for _, c := range []struct {
		doc  string
		kind api.Errno
		want int // how many faults of the kind
		each int // how many places has each
	}{
		{strings.Repeat("query A {e} ", many), api.ErrOpTwice, 1, many},
		{numbered(many, "query A# {e} ") + numbered(many, "query A# {e} "), api.ErrOpTwice, many, 2},
		{strings.Repeat("{e} ", many), api.ErrOpAlone, many, 1},
		{"{nope(" + strings.Repeat("a: 1 ", many) + ")}", api.ErrArgSame, 1, many},
		{"{nope(" + numbered(many, "a#: 1 ") + numbered(many, "a#: 2 ") + ")}", api.ErrArgSame, many, 2},
		{"{f(" + numbered(many, "a#: 1 ") + ") {a}}", api.ErrArgNone, many, 1},
		{"{e " + strings.Repeat("@field ", many) + "}", api.ErrDirSame, 1, many},
		{"{e " + numbered(many, "@a# ") + "}", api.ErrDirNone, many, 1},
		{"{" + strings.Repeat("e @field @field ", many) + "}", api.ErrDirSame, many, 2},
		{"{" + strings.Repeat("o ", many) + "}", api.ErrNoSels, many, 1},
		{"{f(x: 1 y: {c: 1 " + strings.Repeat("b: A ", many) + "}) {a}}", api.ErrInFieldSame, 1, many},
	} {
		found := 0
		for _, f := range fields.Check(scope.Lay(types, parse(t, c.doc))) {
			if f.Kind == c.kind && len(f.Pos) == c.each {
				found++
			}
		}
		if found != c.want {
			t.Errorf("%.40s: got %d of %s, want %d", c.doc, found, kindText(c.kind), c.want)
		}
	}
}

// P17.2: what a small document doesn't ask for isn't copied out of a great type system.
func TestSmallAndGreat(t *testing.T) {
	const many = 20000
	types := sound(t, "type Query {f(p: P0): Int g: Int} enum E {A} input Q {x: E} "+numbered(many, "type T# {a: T+} input P# {p: P+ q: Q e: [E] n: Int} ")+"type T20000 {a: Int} input P20000 {a: Int}")
	for _, c := range []row{
		{"{g}", ""},
		{"{f(p: {q: {x: B} e: A n: A})}", "Value 1:15; Value 1:26"},
		{"query ($v: P7 = {n: {} z: 1}) {f(p: {q: 1})}", "Value 1:21; Value 1:41; InFieldNone 1:24"},
	} {
		s := scope.Lay(types, parse(t, c.doc))
		for range 2000 {
			if got := told(fields.Check(s)); got != c.want {
				t.Fatalf("%s: got %s, want %s", c.doc, got, c.want)
			}
		}
	}
}

// P17.2: a nil type system is built once for a call, not at each question.
func TestManyWithoutTypes(t *testing.T) {
	const many = 50000
	s := scope.Lay(nil, parse(t, "{"+strings.Repeat("... on __Type {kind {a} ofType @skip(if: 1)} ", many)+"}"))
	got := count(fields.Check(s))
	if got[api.ErrLeafSels] != many || got[api.ErrNoSels] != many || got[api.ErrValue] != many || got[api.ErrOpRoot] != 1 || len(got) != 4 {
		t.Error("faults:", got)
	}
}
