package collect_test

import (
	"slices"
	"strconv"
	"strings"
	"testing"

	"pergola/api"
	"pergola/collect"
)

// Many selections of one key, and of a key each.
func TestManyFields(t *testing.T) {
	const most = 200000
	types := sound(t, zoo)
	doc := parse(t, "{"+strings.Repeat("a ", most)+numbered(most, "k#: a ")+"}")
	p := collect.New(types, doc, 0, nil)
	got := p.Root()
	if len(got) != most+1 || len(got[0].Nodes) != most || got[0].Nodes[most-1] != most-1 || got[most].Key != "k199999" || got[most].Nodes[0] != 2*most-1 {
		t.Error(len(got), len(got[0].Nodes))
	}
}

// Many numbers for one call, each of a field with a few selections and a spread of many.
func TestManyNodes(t *testing.T) {
	const most = 20000
	types := sound(t, zoo)
	doc := parse(t, "{"+strings.Repeat("q {b ...F a} ", most)+"} fragment F on I {"+numbered(most, "k#: a ")+"}")
	p := collect.New(types, doc, 0, nil)
	root := p.Root()
	if len(root) != 1 || len(root[0].Nodes) != most {
		t.Fatal(len(root))
	}
	got := p.Sub("Query", root[0].Nodes)
	if len(got) != most+2 || got[1].Key != "k0" || len(got[0].Nodes) != most || len(got[most+1].Nodes) != most || len(got[7].Nodes) != 1 {
		t.Error(len(got))
	}
	many := slices.Repeat([]int{0, -1, 1, most * 10}, most)
	if got := p.Sub("O", many); len(got) != most+2 || len(got[0].Nodes) != most {
		t.Error(len(got))
	}
}

// A long row of fragments, a ring of them, and fragments each of which spreads the next one twice: all is gone through once, without nested calls.
func TestRowsOfFragments(t *testing.T) {
	const most = 50000
	types := sound(t, zoo)
	for name, text := range map[string]string{
		"row":      "fragment F# on I {...F+ k#: a} ",
		"inlined":  "fragment F# on I {... {... on I {...F+}} k#: a} ",
		"in front": "fragment F# on I {k#: a ...F+} ",
		"twice":    "fragment F# on I {...F+ ...F+ k#: a ...F+} ",
		"ring":     "fragment F# on I {...F+ ...F0 k#: a} ",
	} {
		doc := parse(t, "{q {...F0 a} ...F0 b} "+numbered(most, text)+"fragment F50000 on Query {...F0 z: b}")
		p := collect.New(types, doc, 0, nil)
		root := p.Root()
		sub := p.Sub("Query", []int{0})
		if len(root) != most+3 || len(sub) != most+2 {
			t.Fatal(name, len(root), len(sub))
		}
		first, last, z := "k49999", "k0", 0
		if name == "in front" {
			first, last, z = "k0", "k49999", most
		}
		keys := make([]string, 0, len(sub))
		for _, g := range sub {
			keys = append(keys, g.Key)
		}
		keys = slices.Delete(keys, z, z+1)
		if keys[0] != first || keys[most-1] != last || keys[most] != "a" || sub[z].Key != "z" {
			t.Error(name, keys[0], keys[most-1], keys[most], sub[z].Key)
		}
	}
}

// Many calls over great types, and over a document of many selections: no call goes through more than it must.
func TestManyCalls(t *testing.T) {
	const most = 20000
	types := sound(t, "type Query implements N {n: N u: U "+numbered(most, "f#: Int ")+"} interface N {n: N u: U} "+numbered(most, "type T# implements N {n: N u: U a: Int} ")+"union U = "+numbered(most, "| T# "))
	doc := parse(t, "{n {n {u {__typename}} ...F ... on U {...F ... on T7 {a}}}"+numbered(most, "f# ")+"} fragment F on U {u {__typename} k: __typename}")
	p := collect.New(types, doc, 0, nil)
	for i := range 100000 {
		want := "n: 1; u: 20009; k: 20011"
		if i%most == 7 {
			want = "n: 1; u: 20009; k: 20011; a: 8"
		}
		if got := told(p.Sub("T"+strconv.Itoa(i%most), []int{0})); got != want {
			t.Fatalf("%d: got %s, want %s", i, got, want)
		}
	}
	if got := p.Root(); len(got) != most+1 {
		t.Error(len(got))
	}
}

// Many variables, and as many uses of them.
func TestManyVariables(t *testing.T) {
	const most = 50000
	types := sound(t, zoo)
	doc := parse(t, "query ("+numbered(most, "$v#: Boolean ")+") {"+numbered(most, "k#: a @skip(if: $v#) l#: a @include(if: $v#) ")+"}")
	vars := make([]api.Member, most)
	for i := range vars {
		vars[i] = api.Member{Name: "v" + strconv.Itoa(most-1-i), Value: api.Value{Kind: api.KindBool, Bool: i%2 == 0}}
	}
	got := collect.New(types, doc, 0, vars).Root()
	if len(got) != most || got[0].Key != "k0" || got[1].Key != "l1" || got[most-1].Key != "l49999" {
		t.Error(len(got))
	}
}

// R1: selections that are nested far deeper than any source's.
func TestNestedDeep(t *testing.T) {
	const levels = 1<<16 - 100
	types := sound(t, zoo)
	inline, field := api.Sel{Kind: api.SelField, Name: "a"}, api.Sel{Kind: api.SelField, Name: "b"}
	for range levels {
		inline = api.Sel{Kind: api.SelInline, On: "I", Sels: []api.Sel{inline}}
		field = api.Sel{Kind: api.SelField, Name: "q", Sels: []api.Sel{field}}
	}
	p := collect.New(types, api.Document{Defs: []api.Def{{Kind: api.DefQuery, Sels: []api.Sel{inline, field}}}}, 0, nil)
	if got := told(p.Root()); got != "a: 65436; q: 65437" {
		t.Error(got)
	}
	if got := told(p.Sub("Query", []int{65437})); got != "q: 65438" {
		t.Error(got)
	}
	if got := told(p.Sub("Query", []int{65437 + levels - 1})); got != "b: 130873" {
		t.Error(got)
	}
}
