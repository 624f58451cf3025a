package fields_test

import (
	"testing"

	"pergola/api"
	"pergola/fields"
	"pergola/scope"
	"pergola/tree"
)

// P17.1: the chapter's examples.
func TestExamples(t *testing.T) {
	checkRows(t, chapter, check, []row{
		{"query A {a} query A {a} {a}", "OpTwice 1:1 1:13; OpAlone 1:25"},
		{"{a} {a}", "OpAlone 1:1; OpAlone 1:5"},
		{"mutation {a}", "OpRoot 1:1"},
		{"subscription {t}", ""},
		{"subscription {t x: t}", "OpSingle 1:1"},
		{"subscription {...{t} ...F} fragment F on Subscription {t u}", "OpSingle 1:1"},
		{"subscription {__typename}", "OpSingle 1:1"},
		{"subscription {t t @skip(if: true)}", ""},
		{"{b o(x: 1)}", "FieldNone 1:2; NoSels 1:4"},
		{"{a {z} s {e {A}}}", "LeafSels 1:2; LeafSels 1:11"},
		{"{b {c}}", "FieldNone 1:2"},
		{"{a(x: 1) o(y: null z: 1 z: 2) {a}}", "ArgNone 1:4; ArgNone 1:20; ArgNone 1:25; ArgSame 1:20 1:25; ArgMissing 1:10"},
		{`{o(x: null y: {p: "1" r: 1}) {a}}`, "Value 1:7; Value 1:19; InFieldNone 1:23"},
		{"{b(i: {k: 1 k: 2} i: 3)}", "FieldNone 1:2; ArgSame 1:4 1:19; InFieldSame 1:8 1:13"},
		{`query @d @r @r {a @d @d(k: "x") @x @r @r}`, "Value 1:28; DirNone 1:33; DirPlace 1:7; DirSame 1:19 1:22"},
		{"{a @skip}", "ArgMissing 1:4"},
	})
}

// everything is a document with each kind of fault.
const everything = "query A($v: P = {a: {}} @field @field) {a} query A {o} {s {a}} subscription {f(x: 1 x: 2 nope: {b: 1 b: 2}) u} mutation {t} fragment F on Root {e {a} o f @nope @query {a} g i(x: 1) m: f(x: null y: {c: \"\" z: 1}) @field @field {a}}"

// rootless is zoo without the roots of mutations and subscriptions.
func rootless() string {
	return "schema {query: Root}" + zoo[len("\n\tschema {query: Root mutation: Change subscription: Feed}"):]
}

// P17.1: each call has the faults of its own rows, and Check has all of them, sorted.
func TestEachHasItsOwn(t *testing.T) {
	s := scope.Lay(sound(t, rootless()), parse(t, everything))
	bounds := [][2]api.Errno{{api.ErrOpTwice, api.ErrOpRoot}, {api.ErrFieldNone, api.ErrNoSels}, {api.ErrArgNone, api.ErrArgMissing}, {api.ErrValue, api.ErrInFieldMissing}, {api.ErrDirNone, api.ErrDirSame}}
	kinds := map[api.Errno]int{}
	var all []api.Fault
	for i, bound := range bounds {
		own := call(i).of(s)
		for _, f := range own {
			kinds[f.Kind]++
			if f.Kind < bound[0] || f.Kind > bound[1] || f.Kind == api.ErrOverlap {
				t.Errorf("%v answers %s", call(i), told([]api.Fault{f}))
			}
		}
		all = append(all, own...)
	}
	if len(kinds) != 17 {
		t.Error("not each kind is there:", told(all))
	}
	if got, want := told(fields.Check(s)), told(tree.Faults(all)); got != want {
		t.Errorf("Check: got %s, want %s", got, want)
	}
	hold(t, everything, sound(t, rootless()), parse(t, everything))
}

// A document in which everything is right, at all places.
const rightAll = `query A($v: [P!] = [{c: 1}] @variable @many(x: 1 y: A) @many(x: 2 y: B) $w: Nope = {b: 1}) @query @all {
		... @inline @skip(if: true) {f(x: 1 y: {c: 2 e: $v}) @field @include(if: $w) {...F @spread a(e: B l: {c: 1}) u {... on V {v {__typename}} __typename}}}
		__schema {types {name fields(includeDeprecated: true) {name}}} __type(name: "Root") {kind} g(a: 1 b: 2 d: A)
	}
	mutation B @mutation {m(p: {c: 1}) {o {n {n(k: null) {__typename}}}}}
	subscription C @subscription {...G ... {k: t(x: 1)}}
	fragment F on O @fragment {u {__typename} n(extra: 9) {__typename}}
	fragment G on Feed {k: t(x: 2) ...G}`

// P17.1: nothing is told where nothing is wrong.
func TestRight(t *testing.T) {
	checkRows(t, zoo, check, []row{
		{rightAll, ""},
		{"{__typename}", ""},
		{"fragment F on Root {e}", ""},
	})
}

// P17.1, R1: a nil sheet, a sheet of nothing, and a sheet that wasn't laid.
func TestNoSheet(t *testing.T) {
	for _, s := range []*scope.Sheet{nil, {}, scope.Lay(nil, api.Document{}), scope.Lay(sound(t, zoo), api.Document{})} {
		for _, c := range allCalls() {
			if got := c.of(s); len(got) != 0 {
				t.Errorf("%v: %s", c, told(got))
			}
		}
	}
}
