package scope_test

import (
	"testing"

	"pergola/api"
	"pergola/scope"
	"pergola/typesys"
)

// P16.2: the chapter's first example.
func TestExampleOfNodes(t *testing.T) {
	s := lay(t, chapter, "{a z: q {u {__typename a}}}")
	checkNodes(t, s, `
		a:a in Query: Int known, def 0 up -1 kids [] at 1:2
		z:q in Query: Query known, def 0 up -1 kids [2] at 1:4
		u:u in Query: U known, def 0 up 1 kids [3 4] at 1:10
		__typename:__typename in U: String! known, def 0 up 2 kids [] at 1:13
		a:a in U: -, def 0 up 2 kids [] at 1:24
	`)
	checkUses(t, s, "")
	checkSpots(t, s, "")
	checkMarks(t, s, "")
}

// P16.2: the chapter's second example.
func TestExampleOfScopes(t *testing.T) {
	checkNodes(t, lay(t, chapter, "{a {a} nix {a} ... {a} ... on I {a} ...F}"), `
		a:a in Query: Int known, def 0 up -1 kids [1] at 1:2
		a:a in -: -, def 0 up 0 kids [] at 1:5
		nix:nix in Query: -, def 0 up -1 kids [3] at 1:8
		a:a in -: -, def 0 up 2 kids [] at 1:13
		...on - in Query: - known, def 0 up -1 kids [5] at 1:16
		a:a in Query: Int known, def 0 up 4 kids [] at 1:21
		...on I in Query: - known, def 0 up -1 kids [7] at 1:24
		a:a in -: -, def 0 up 6 kids [] at 1:34
		...F in Query: -, def 0 up -1 kids [] at 1:37
	`)
}

// P16.2: the chapter's third example.
func TestExampleOfUses(t *testing.T) {
	s := lay(t, chapter, "query ($v: Int = 1 @m(k: 2)) @skip(if: $w) {q(x: {c: [{b: $v}]} s: [$v] y: $v) {a}}")
	checkUses(t, s, `
		$w at 1:40: Boolean! typed, def 0
		$v at 1:59: Int typed, def 0
		$v at 1:69: -, def 0
		$v at 1:76: -, def 0
	`)
	checkSpots(t, s, `
		1 at 1:18: Int typed, def 0
		2 at 1:26: -, def 0
		$w at 1:40: Boolean! typed, def 0
		{c: [{b: $v}]} at 1:50: I typed preset, def 0
		[$v] at 1:68: S typed, def 0
		$v at 1:76: -, def 0
	`)
	checkMarks(t, s, `
		@m(1) at 1:20: VARIABLE_DEFINITION of -2, def 0
		@skip(1) at 1:30: QUERY of -1 known, def 0
	`)
	checkNodes(t, s, `
		q:q in Query: Query known, def 0 up -1 kids [1] at 1:45
		a:a in Query: Int known, def 0 up 0 kids [] at 1:81
	`)
}

// P16.2: the chapter's fourth example.
func TestExampleOfDefaults(t *testing.T) {
	for _, c := range []struct{ doc, use string }{
		{"{q(x: {c: $v}) {a}}", "$v at 1:11: [I] typed preset, def 0"},
		{"{q(x: $v) {a}}", "$v at 1:7: I typed preset, def 0"},
		{"{q(x: {c: {b: $v}}) {a}}", "$v at 1:15: Int typed, def 0"},
	} {
		checkUses(t, lay(t, chapter, c.doc), c.use)
	}
}

// P16.3, P16.4: the chapter's fifth example.
func TestExampleOfReach(t *testing.T) {
	s := lay(t, chapter, "query {...A} fragment A on Query {...B} fragment B on Query {a ...A}")
	for def := range 3 {
		alike(t, "Reach", s.Reach(def), []int{1, 2})
	}
	checkFragment(t, s, "A", 1, true)
	checkFragment(t, s, "B", 2, true)
	checkNodes(t, s, `
		...A in Query: - known, def 0 up -1 kids [] at 1:8
		...B in Query: - known, def 1 up -1 kids [] at 1:35
		a:a in Query: Int known, def 2 up -1 kids [] at 1:62
		...A in Query: - known, def 2 up -1 kids [] at 1:64
	`)
}

// P16.1: the very type system, and a document that is equal.
func TestWhatLayWasGiven(t *testing.T) {
	src := "query Q($a: [Int!] = [1 {b: 2}] @d(x: [1])) @d(y: {z: 1}) {k: a(x: [$a]) @d {b ...F ... on T @e {c}}} {a} mutation {a} subscription {a} fragment F on T @d {a}"
	other := sound(t, "type Query {b: Int}")
	for _, types := range []*typesys.Types{sound(t, chapter), other, nil, {}} {
		doc := parse(t, src)
		s := scope.Lay(types, doc)
		if s.Types() != types {
			t.Error("Types answers another type system")
		}
		alike(t, "Document", s.Document(), doc)
		if s == scope.Lay(types, doc) {
			t.Error("Lay answers one sheet twice")
		}
	}
	one, two := lay(t, chapter, "{a}"), scope.Lay(other, parse(t, "{b b}"))
	for range 2 {
		checkNodes(t, one, "a:a in Query: Int known, def 0 up -1 kids [] at 1:2")
		checkNodes(t, two, `
			b:b in Query: Int known, def 0 up -1 kids [] at 1:2
			b:b in Query: Int known, def 0 up -1 kids [] at 1:4
		`)
	}
}

// P16.2: a node by its number is the node in the list; of other numbers there is none.
func TestNodeByNumber(t *testing.T) {
	s := lay(t, chapter, "{a k: q(x: {b: $v}) @skip(if: true) {a ... @include(if: false) {a ...F}} ...F} fragment F on U {... on Query {a}}")
	nodes := s.Nodes()
	if len(nodes) != 9 {
		t.Fatal("nodes:", len(nodes))
	}
	for i, want := range nodes {
		got, ok := s.Node(i)
		if !ok {
			t.Error("no node", i)
		}
		alike(t, "Node", got, want)
	}
	for _, i := range []int{-1, 9, 10, -9, 1 << 40, -1 << 63, 1<<63 - 1} {
		got, ok := s.Node(i)
		if ok {
			t.Error("a node", i)
		}
		alike(t, "Node", got, api.Node{})
	}
}

// P16.2: the selections in a definition's own braces; of other numbers none.
func TestTops(t *testing.T) {
	s := lay(t, chapter, "{a q {a a} a} fragment F on Query {q {a ... {a}} ...F} query B {...F} fragment F on Query {a}")
	for _, c := range []struct {
		def  int
		want []int
	}{{0, []int{0, 1, 4}}, {1, []int{5, 9}}, {2, []int{10}}, {3, []int{11}}, {4, nil}, {-1, nil}, {1 << 40, nil}, {-1 << 63, nil}} {
		alike(t, "Tops", s.Tops(c.def), c.want)
	}
}

// R1, P16.5: a nil sheet and one that Lay hasn't made.
func TestNilSheet(t *testing.T) {
	for _, s := range []*scope.Sheet{nil, {}} {
		if s.Types() != nil {
			t.Error("Types")
		}
		alike(t, "Document", s.Document(), api.Document{})
		if len(s.Nodes())+len(s.Uses())+len(s.Spots())+len(s.Marks()) != 0 {
			t.Error("something on an empty sheet")
		}
		for _, i := range []int{-1, 0, 1, 1 << 40} {
			node, ok := s.Node(i)
			alike(t, "Node", node, api.Node{})
			if ok || len(s.Tops(i)) != 0 || len(s.Reach(i)) != 0 {
				t.Error("something in an empty sheet")
			}
		}
		checkFragment(t, s, "", 0, false)
		checkFragment(t, s, "A", 0, false)
	}
}

// A document without definitions is not well made; its sheet is empty.
func TestNoDefinitions(t *testing.T) {
	types := sound(t, chapter)
	s := scope.Lay(types, api.Document{})
	if s == nil || s.Types() != types {
		t.Error("no sheet")
	}
	want := answers(nil)
	alike(t, "an empty document", answers(s), want)
}
