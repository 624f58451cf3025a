package scope_test

import (
	"math"
	"math/rand"
	"reflect"
	"strings"
	"testing"

	"pergola/api"
	"pergola/scope"
	"pergola/typesys"
)

// oddTexts are texts that are no names and no marks, and some that are.
func oddTexts() []string {
	return []string{"", "\xff", "a\xc3", "\x00", " ", "]", "!", "]!", "!!", "!!]", "x", "]x!", "[", "__", "1", "A", "E", "S", "O0", "N0", "U0", "P0", "Int", "f0", "a0", "F0", "d0", "skip", "if", "__Type", "__typename", "__schema", strings.Repeat("]", 100), "é"}
}

func oddNumbers() []int {
	return []int{math.MinInt, math.MinInt32, -2, -1, 0, 1, 2, 3, 4, 5, 6, 7, 8, 9, 10, 255, 1 << 16, math.MaxInt32, math.MaxInt}
}

// spoiler changes parts of a value in its place, each with the chance of one in rate.
type spoiler struct {
	r    *rand.Rand
	rate int
	room int // how many lists may still be made
}

func (s *spoiler) spoil(v reflect.Value) {
	switch v.Kind() {
	case reflect.Struct:
		for i := range v.NumField() {
			s.spoil(v.Field(i))
		}
	case reflect.Slice:
		if s.hits() {
			v.Set(s.list(v.Type()))
		}
		for i := range v.Len() {
			s.spoil(v.Index(i))
		}
	case reflect.String:
		if texts := oddTexts(); s.hits() {
			v.SetString(texts[s.r.Intn(len(texts))])
		}
	case reflect.Bool:
		if s.hits() {
			v.SetBool(!v.Bool())
		}
	case reflect.Int:
		if numbers := oddNumbers(); s.hits() {
			v.SetInt(int64(numbers[s.r.Intn(len(numbers))]))
		}
	}
}

func (s *spoiler) hits() bool { return s.r.Intn(s.rate) == 0 }

// list is a list of zero elements, nil among them.
func (s *spoiler) list(t reflect.Type) reflect.Value {
	if s.room == 0 || s.r.Intn(3) == 0 {
		return reflect.Zero(t)
	}
	s.room--
	return reflect.MakeSlice(t, s.r.Intn(3), 3)
}

// checkSpoilt: every call ends and none panics, all answer the same again, and the document stays as it is.
func checkSpoilt(t *testing.T, types *typesys.Types, doc api.Document) {
	t.Helper()
	before := even(doc)
	defer func() {
		if err := recover(); err != nil {
			t.Fatalf("%#v: %v", before, err)
		}
	}()
	s := scope.Lay(types, doc)
	one, again := answers(s), answers(s)
	other := answers(scope.Lay(types, doc))
	alike(t, "answered again", again, one)
	alike(t, "laid again", other, one)
	alike(t, "the document", doc, before)
	alike(t, "Document", one.Document, before)
	for _, i := range oddNumbers() {
		s.Node(i)
		s.Tops(i)
		s.Reach(i)
	}
	if s.Types() != types {
		t.Error("Types answers another type system")
	}
}

// R1: documents and definitions that were well made till something in them was changed; type systems that aren't sound, nil among them.
func TestSpoilt(t *testing.T) {
	for seed := range int64(300) {
		m := &maker{r: rand.New(rand.NewSource(seed))}
		defs := read(t, m.system())
		types := typesys.Build(defs)
		s := spoiler{m.r, 1 + m.r.Intn(40), 50}
		docs := []api.Document{parse(t, m.document(types)), parse(t, m.document(types)), parse(t, m.document(types))}
		if seed%2 == 1 {
			s.spoil(reflect.ValueOf(&defs).Elem())
			types = typesys.Build(defs)
		}
		for i := range docs {
			s.spoil(reflect.ValueOf(&docs[i]).Elem())
			checkSpoilt(t, types, docs[i])
		}
		if seed%20 == 0 {
			checkSpoilt(t, nil, docs[0])
			checkSpoilt(t, &typesys.Types{}, docs[0])
		}
	}
}

// R1: well-made definitions that aren't sound, and well-made documents.
func TestUnsound(t *testing.T) {
	for _, src := range []string{
		"type A{a:Int a:X} type A{b:Int} union U=A|A|X|U interface I implements I&X type A implements I&I",
		"schema{query:X mutation:P subscription:E} input P{a:P! a:Q b:Int=A} enum E{A}",
		"type Query{__typename:Int __schema(x:Int x:ID):Int a(x:Query y:Nope=1 y:Int):P} input P{a:Query a:Int b:Nope=1}",
		"interface Query{a:Int} union Mutation directive@d(x:X=1 x:Int y:Query)on FIELD directive@skip on QUERY",
	} {
		for _, doc := range []string{rich, "{a(x:$v y:[$v] z:{a:$w b:$x}) @d(x:$v y:$v) {a}} mutation{a{a}} subscription{A} {...on P{a} ...on U{a}}"} {
			checkSpoilt(t, typesys.Build(read(t, src)), parse(t, doc))
		}
	}
}

// Of two arguments or fields of one name the first counts, though the second has another type.
func TestFirstInputCounts(t *testing.T) {
	types := typesys.Build(read(t, "type Query {f(x: Int = 1 x: P y: P y: ID z: Query z: Int): Int} input P {a: ID a: Int = 2 b: Nope b: Int} directive @d(x: E x: Int) on FIELD enum E {A}"))
	checkUses(t, scope.Lay(types, parse(t, "{f(x: $u y: {a: $v b: $w} z: $x) @d(x: $y)}")), `
		$u at 1:7: Int typed preset, def 0
		$v at 1:17: ID typed, def 0
		$w at 1:23: -, def 0
		$x at 1:30: -, def 0
		$y at 1:40: E typed, def 0
	`)
}

// R1: a nil type system, and one that nothing was laid into, are that of no definitions.
func TestNoTypes(t *testing.T) {
	doc := parse(t, "{a {b} ... on __Type {name fields(includeDeprecated: $v) {type {kind}}} __typename ...F} fragment F on __Schema @skip(if: $w) @d(x: 1) {types {name} ... on Int {a} ... on Query {a}}")
	want := answers(scope.Lay(typesys.Build(nil), doc))
	for _, types := range []*typesys.Types{nil, {}} {
		s := scope.Lay(types, doc)
		alike(t, "no types", answers(s), want)
		checkUses(t, s, `
			$v at 1:54: Boolean typed preset, def 0
			$w at 1:123: Boolean! typed, def 1
		`)
	}
}

// R1: kinds that are none, with all parts and with none.
func TestKindsThatAreNone(t *testing.T) {
	types := sound(t, zoo)
	for _, n := range oddNumbers() {
		lit := api.Lit{Kind: api.LitKind(n), Text: "v", Items: make([]api.Lit, 2), Fields: make([]api.LitField, 2)}
		args := []api.Arg{{}, {Name: "x", Value: lit}, {Name: "y", Value: api.Lit{Kind: api.LitList, Items: []api.Lit{lit}}}}
		dirs := []api.Dir{{}, {Name: "d", Args: args}, {Name: "", Args: args}}
		inner := api.Sel{Kind: api.SelField, Name: "a"}
		for _, name := range []string{"", "f", "F", "O"} {
			sel := api.Sel{Kind: api.SelKind(n), Alias: "k", Name: name, On: name, Args: args, Dirs: dirs, Sels: []api.Sel{inner, {}, {Kind: api.SelKind(n)}}}
			for _, kind := range oddNumbers() {
				vars := []api.VarDef{{}, {HasDefault: true, Default: lit, Dirs: dirs}, {HasDefault: true}, {Default: lit}}
				def := api.Def{Kind: api.DefKind(kind), Name: name, On: name, Vars: vars, Dirs: dirs, Sels: []api.Sel{sel, inner}}
				checkSpoilt(t, types, api.Document{Defs: []api.Def{def, {}, def}})
			}
		}
	}
}

// R1: literals, references and selections that are nested far deeper than any source's.
func TestNestedDeep(t *testing.T) {
	const levels = 1<<16 - 10
	types := sound(t, zoo)
	list, object := api.Lit{Kind: api.LitVar, Text: "v"}, api.Lit{Kind: api.LitVar, Text: "v"}
	sel := api.Sel{Kind: api.SelField, Name: "self", Args: []api.Arg{{Name: "a"}}}
	for i := range levels {
		list = api.Lit{Kind: api.LitList, Items: []api.Lit{list}}
		object = api.Lit{Kind: api.LitObject, Fields: []api.LitField{{Name: "a", Value: object}}}
		sel = api.Sel{Kind: []api.SelKind{api.SelField, api.SelInline}[i%2], Name: "self", Sels: []api.Sel{sel}}
	}
	args := []api.Arg{{Name: "a", Value: list}, {Name: "a", Value: object}}
	doc := api.Document{Defs: []api.Def{{Kind: api.DefQuery, Sels: []api.Sel{{Kind: api.SelField, Name: "p", Args: args}, sel}}}}
	s := scope.Lay(types, doc)
	uses, last := s.Uses(), levels+1
	if len(uses) != 2 || uses[0].Typed || !uses[1].Typed || uses[1].Type != (api.TypeRef{Name: "P"}) {
		t.Error("uses:", uses)
	}
	if node, ok := s.Node(last); !ok || node.Parent != "Root" || node.Up != last-1 || !node.Known || len(s.Document().Defs) != 1 || len(s.Nodes()) != levels+2 {
		t.Error("the innermost node:", node)
	}
}
