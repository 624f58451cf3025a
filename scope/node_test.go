package scope_test

import (
	"strings"
	"testing"

	"pergola/api"
)

// zoo has types of all kinds, with fields of all kinds of types.
const zoo = `
	schema {query: Root mutation: Change}
	type Root {o: O oo: [[O!]!]! n: N! u: [U] e: E s: S i: [Int!] f(x: Int): O p(a: P): Int self: Root}
	type Change {o: O m: Change!}
	type Subscription {o: O}
	type O implements N {a: Int n: N} extend type O {b: [E!]}
	type V {v: V}
	interface N {n: N}
	union U = O | V
	enum E {A B} scalar S input P {a: P b: [E!] = A}
	directive @d(x: Int y: [P!]! = {}) repeatable on QUERY | MUTATION | SUBSCRIPTION | FRAGMENT_DEFINITION | VARIABLE_DEFINITION | FIELD | FRAGMENT_SPREAD | INLINE_FRAGMENT`

// inScope is what the innermost field of a document is told as: its scope, its type, and whether it is known.
func inScope(t *testing.T, doc string) string {
	t.Helper()
	nodes := lay(t, zoo, doc).Nodes()
	last := nodes[len(nodes)-1]
	return orDash(last.Parent) + " " + typeText(last.Type) + flags("known", last.Known)
}

// P16.2: the scope of a selection, by what its braces belong to; which fields a type has.
func TestScope(t *testing.T) {
	for _, c := range []struct{ doc, want string }{
		// an operation's braces
		{"{o}", "Root O known"}, {"query {o}", "Root O known"}, {"query Q {m}", "Root -"}, {"mutation {m}", "Change Change! known"}, {"mutation {self}", "Change -"}, {"subscription {o}", "- -"},
		// a fragment's
		{"fragment F on O {a}", "O Int known"}, {"fragment F on N {n}", "N N known"}, {"fragment F on N {a}", "N -"}, {"fragment F on U {a}", "U -"}, {"fragment F on U {__typename}", "U String! known"},
		{"fragment F on E {A}", "- -"}, {"fragment F on S {a}", "- -"}, {"fragment F on P {a}", "- -"}, {"fragment F on Int {a}", "- -"}, {"fragment F on Nope {a}", "- -"}, {"fragment F on Subscription {o}", "Subscription O known"}, {"fragment F on __Type {name}", "__Type String known"}, {"fragment F on __TypeKind {name}", "- -"},
		// an inline fragment's with a type condition, whatever stands around it
		{"{... on O {a}}", "O Int known"}, {"{... on N {n}}", "N N known"}, {"{... on U {v}}", "U -"}, {"{... on P {a}}", "- -"}, {"{... on E {a}}", "- -"}, {"{... on Nope {a}}", "- -"}, {"{... on ID {a}}", "- -"},
		{"{nix {... on O {a}}}", "O Int known"}, {"subscription {... on O {a}}", "O Int known"}, {"{... on Nope {... on V {v}}}", "V V known"}, {"{... on V {... on O {n {... on O {b}}}}}", "O [E!] known"},
		// an inline fragment's without one
		{"{... {o}}", "Root O known"}, {"{... {... {... {self}}}}", "Root Root known"}, {"{... on N {... {a}}}", "N -"}, {"{nix {... {a}}}", "- -"}, {"{... on P {... {a}}}", "- -"}, {"mutation {... @d {m}}", "Change Change! known"}, {"fragment F on V {... {v}}", "V V known"}, {"subscription {... {o}}", "- -"},
		// a field's, by the type that its type names, whatever the marks
		{"{o {a}}", "O Int known"}, {"{oo {a}}", "O Int known"}, {"{n {n}}", "N N known"}, {"{n {a}}", "N -"}, {"{u {a}}", "U -"}, {"{u {__typename}}", "U String! known"}, {"{e {A}}", "- -"}, {"{s {a}}", "- -"}, {"{i {a}}", "- -"}, {"{nix {a}}", "- -"}, {"{o {b {a}}}", "- -"}, {"{nix {nix {__typename}}}", "- -"},
		{"{self {self {f {n {n}}}}}", "N N known"}, {"{k: o {k: a}}", "O Int known"}, {"{o: nix {a}}", "- -"}, {"{nix: o {a}}", "O Int known"},
		// fields that types have by themselves
		{"{__schema}", "Root __Schema! known"}, {"{__type}", "Root __Type known"}, {"{__typename}", "Root String! known"}, {"{self {__schema}}", "Root __Schema! known"}, {"{... on Root {__type}}", "Root __Type known"},
		{"mutation {__schema}", "Change -"}, {"mutation {__type}", "Change -"}, {"mutation {__typename}", "Change String! known"}, {"{o {__schema}}", "O -"}, {"{u {__type}}", "U -"}, {"{n {__typename}}", "N String! known"},
		{"{__schema {types {fields {type {kind}}}}}", "__Type __TypeKind! known"}, {"{__schema {queryType {ofType {kind {a}}}}}", "- -"}, {"{__type {enumValues {__typename}}}", "__EnumValue String! known"}, {"{i {__typename}}", "- -"}, {"{e {__typename}}", "- -"},
	} {
		if got := inScope(t, c.doc); got != c.want {
			t.Errorf("%s: got %s, want %s", c.doc, got, c.want)
		}
	}
}

// P16.2: fragments' names are known wherever they stand; type conditions if there is such a type, of whatever kind.
func TestKnownFragments(t *testing.T) {
	for _, c := range []struct {
		doc   string
		known bool
	}{
		{"fragment F on O {a} {...F}", true}, {"query F {a} {...F}", false}, {"query F {...F}", false}, {"fragment F on Nope {...F}", true}, {"fragment F on O {...f}", false}, {"fragment F on O {a} fragment F on V {v} {...F}", true}, {"{...O}", false},
		{"{...{a}}", true}, {"{...on O{a}}", true}, {"{...on N{a}}", true}, {"{...on U{a}}", true}, {"{...on E{a}}", true}, {"{...on S{a}}", true}, {"{...on P{a}}", true}, {"{...on Int{a}}", true}, {"{...on __Field{a}}", true},
		{"{...on Nope{a}}", false}, {"{...on o{a}}", false}, {"{...on Query{a}}", false}, {"{...on d{a}}", false}, {"fragment F on O {...on F{a}}", false},
	} {
		nodes := lay(t, zoo, c.doc).Nodes()
		for i := len(nodes) - 1; i >= 0; i-- {
			if nodes[i].Kind != api.SelField {
				if nodes[i].Known != c.known {
					t.Errorf("%s: known is %v", c.doc, nodes[i].Known)
				}
				break
			}
		}
	}
}

// P16.2: what is the selection's own stands in the node as it is; fields that others have are zero.
func TestOwnOfSelections(t *testing.T) {
	doc := parse(t, "{k: f(x: 1 y: [$v {z: A}]) @d(x: $w) @d {a} ...F @d(y: [1]) ... on O @e(x: {y: 2}) {a} ... @d {o} o}")
	sels := doc.Defs[0].Sels
	s := lay(t, zoo, "{k: f(x: 1 y: [$v {z: A}]) @d(x: $w) @d {a} ...F @d(y: [1]) ... on O @e(x: {y: 2}) {a} ... @d {o} o}")
	nodes := s.Nodes()
	for i, number := range s.Tops(0) {
		sel := sels[i]
		want := nodes[number]
		want.Kind, want.Name, want.On, want.Args, want.Dirs, want.Pos = sel.Kind, sel.Name, sel.On, sel.Args, sel.Dirs, sel.Pos
		alike(t, "node", nodes[number], want)
	}
	spread := nodes[s.Tops(0)[1]]
	alike(t, "spread", spread, api.Node{Up: -1, Kind: api.SelSpread, Name: "F", Parent: "Root", Dirs: sels[1].Dirs, Pos: sels[1].Pos})
	inline := nodes[s.Tops(0)[2]]
	alike(t, "inline", inline, api.Node{Up: -1, Kind: api.SelInline, On: "O", Parent: "Root", Known: true, Dirs: sels[2].Dirs, Kids: []int{4}, Pos: sels[2].Pos})
	field := nodes[0]
	alike(t, "field", field, api.Node{Up: -1, Kind: api.SelField, Key: "k", Name: "f", Parent: "Root", Known: true, Type: api.TypeRef{Name: "O"}, Args: sels[0].Args, Dirs: sels[0].Dirs, Kids: []int{1}, Pos: sels[0].Pos})
	bare := nodes[s.Tops(0)[4]]
	alike(t, "field", bare, api.Node{Up: -1, Kind: api.SelField, Key: "o", Name: "o", Parent: "Root", Known: true, Type: api.TypeRef{Name: "O"}, Pos: sels[4].Pos})
}

// P16.2: numbers go on from definition to definition; braces are gone into ahead of what stands behind them.
func TestNumbers(t *testing.T) {
	s := lay(t, zoo, `{o {a n {n}} ... {o {b}} self}
		mutation M {m {m} ...F}
		fragment F on Change {... on Change {o {a}} m}`)
	checkNodes(t, s, `
		o:o in Root: O known, def 0 up -1 kids [1 2] at 1:2
		a:a in O: Int known, def 0 up 0 kids [] at 1:5
		n:n in O: N known, def 0 up 0 kids [3] at 1:7
		n:n in N: N known, def 0 up 2 kids [] at 1:10
		...on - in Root: - known, def 0 up -1 kids [5] at 1:14
		o:o in Root: O known, def 0 up 4 kids [6] at 1:19
		b:b in O: [E!] known, def 0 up 5 kids [] at 1:22
		self:self in Root: Root known, def 0 up -1 kids [] at 1:26
		m:m in Change: Change! known, def 1 up -1 kids [9] at 2:15
		m:m in Change: Change! known, def 1 up 8 kids [] at 2:18
		...F in Change: - known, def 1 up -1 kids [] at 2:21
		...on Change in Change: - known, def 2 up -1 kids [12] at 3:25
		o:o in Change: O known, def 2 up 11 kids [13] at 3:40
		a:a in O: Int known, def 2 up 12 kids [] at 3:43
		m:m in Change: Change! known, def 2 up -1 kids [] at 3:47
	`)
	alike(t, "Tops", s.Tops(0), []int{0, 4, 7})
	alike(t, "Tops", s.Tops(1), []int{8, 10})
	alike(t, "Tops", s.Tops(2), []int{11, 14})
}

// P16.2: without a schema definition the roots go by their names; an operation without a root stands in no scope.
func TestRoots(t *testing.T) {
	const types = "type Query {a: Int} type Subscription {a: ID}"
	for _, c := range []struct{ doc, want string }{
		{"{a}", "a:a in Query: Int known"}, {"mutation {a}", "a:a in -: -"}, {"subscription {a}", "a:a in Subscription: ID known"},
	} {
		got := nodeText(lay(t, types, c.doc).Nodes()[0])
		if !strings.HasPrefix(got, c.want+",") {
			t.Errorf("%s: %s", c.doc, got)
		}
	}
}
