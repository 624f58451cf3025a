package overlap_test

import (
	"math"
	"math/rand"
	"reflect"
	"slices"
	"strings"
	"testing"

	"pergola/api"
	"pergola/overlap"
	"pergola/scope"
	"pergola/typesys"
)

// oddTexts are texts that are no names and no marks, and some that are.
func oddTexts() []string {
	return []string{"", "\xff", "a\xc3", " ", "]", "!", "!!", "]x!", "__", "1", "A", "B", "C", "E", "O", "P", "Int", "Root", "k", "x", "n", "{}", "k:0 k:1", "__Type", "__typename", strings.Repeat("]", 100), "é"}
}

func oddNumbers() []int {
	return []int{math.MinInt, -2, -1, 0, 1, 2, 3, 4, 5, 6, 7, 8, 9, 10, 1 << 16, math.MaxInt}
}

// spoiler changes parts of a value in its place, each with the chance of one in rate.
type spoiler struct {
	r    *rand.Rand
	rate int
}

func (s spoiler) spoil(v reflect.Value) {
	hits := s.r.Intn(s.rate) == 0
	switch v.Kind() {
	case reflect.Struct:
		for i := range v.NumField() {
			s.spoil(v.Field(i))
		}
	case reflect.Slice:
		if hits {
			v.Set(s.list(v))
		}
		for i := range v.Len() {
			s.spoil(v.Index(i))
		}
	case reflect.String:
		if texts := oddTexts(); hits {
			v.SetString(texts[s.r.Intn(len(texts))])
		}
	case reflect.Bool:
		v.SetBool(v.Bool() != hits)
	case reflect.Int:
		if numbers := oddNumbers(); hits {
			v.SetInt(int64(numbers[s.r.Intn(len(numbers))]))
		}
	}
}

// list is a list with a zero element behind its own, or with each element twice, or none.
func (s spoiler) list(v reflect.Value) reflect.Value {
	switch s.r.Intn(3) {
	case 0:
		return reflect.Append(v, reflect.Zero(v.Type().Elem()))
	case 1:
		return reflect.AppendSlice(v.Slice3(0, v.Len(), v.Len()), v)
	}
	return reflect.Zero(v.Type())
}

// checkSpoilt: every call ends and none panics, and all answer the same again.
func checkSpoilt(t *testing.T, types *typesys.Types, doc api.Document) {
	t.Helper()
	defer func() {
		if err := recover(); err != nil {
			t.Fatalf("%#v: %v", doc, err)
		}
	}()
	s, other := scope.Lay(types, doc), scope.Lay(types, doc)
	first := answers(s)
	if !first.isLike(answers(s)) || !first.isLike(answers(other)) {
		t.Errorf("%#v: answers were unlike", doc)
	}
	for _, i := range oddNumbers() {
		overlap.Alike(s, i, 0)
		overlap.OneShape(s, 1, i)
	}
}

// R1: documents and definitions that were well made till something in them was changed; type systems that aren't sound, nil among them.
func TestSpoilt(t *testing.T) {
	all := sound(t, zoo)
	for seed := range int64(1000) {
		m := &maker{r: rand.New(rand.NewSource(seed)), types: all, wild: 5}
		s := spoiler{m.r, 2 + m.r.Intn(40)}
		doc := parse(t, m.document())
		types := m.types
		if seed%2 == 1 {
			defs := read(t, zoo)
			s.spoil(reflect.ValueOf(&defs).Elem())
			types = typesys.Build(defs)
		}
		if seed%3 > 0 {
			s.spoil(reflect.ValueOf(&doc).Elem())
		}
		checkSpoilt(t, types, doc)
		if seed%10 == 0 {
			checkSpoilt(t, nil, doc)
			checkSpoilt(t, &typesys.Types{}, doc)
		}
	}
}

// R1: well-made definitions that aren't sound.
func TestUnsound(t *testing.T) {
	for _, src := range []string{
		"type A{a:Int a:X} type A{b:Int} union U=A|A|X|U interface I implements I&X type A implements I&I",
		"schema{query:X mutation:P subscription:E} input P{a:P! a:Q b:Int=A} enum E{A}",
		"type Query{a:Query b:P} type P{a(x:Int x:ID!):Nope a:Query} union Query=P",
		"interface Query{a:Query} union Mutation",
		"schema{query:Q} input Q{a:Q!={a:{}}} type Subscription{a:Q}",
	} {
		types := typesys.Build(read(t, src))
		for _, doc := range []string{"{a{a a} a:b{a} ...on P{a{a}} ...on U{a} ...on X{a{b}}} mutation{a a{a}} subscription{a{a} a}", "fragment F on Q{a ...F a:b} fragment F on P{a{...F}}"} {
			checkSpoilt(t, types, parse(t, doc))
		}
	}
}

// A nil type system, and one that nothing was laid into, are that of no definitions.
func TestNoTypes(t *testing.T) {
	doc := parse(t, "{k:a k:b ... on __Type {k:a name name:kind} ... on __Schema {name:types}}")
	for _, types := range []*typesys.Types{nil, {}, typesys.Build(nil)} {
		want := "1:2 1:6; 1:6 1:25; 1:29 1:34; 1:29 1:62"
		if got := check.of(scope.Lay(types, doc)); got != want {
			t.Errorf("got %s, want %s", got, want)
		}
	}
}

// R1: kinds that are none, with all parts and with none.
func TestKindsThatAreNone(t *testing.T) {
	types := sound(t, zoo)
	for _, n := range oddNumbers() {
		lit := api.Lit{Kind: api.LitKind(n), Text: "v", Items: make([]api.Lit, 2), Fields: make([]api.LitField, 2)}
		args := []api.Arg{{}, {Name: "x", Value: lit}, {Name: "y", Value: api.Lit{Kind: api.LitList, Items: []api.Lit{lit}}}}
		inner := api.Sel{Kind: api.SelField, Name: "o", Args: args}
		for _, name := range []string{"", "f", "F", "O"} {
			sel := api.Sel{Kind: api.SelKind(n), Alias: "k", Name: name, On: name, Args: args, Sels: []api.Sel{inner, {}, {Kind: api.SelKind(n)}}}
			for _, kind := range oddNumbers() {
				def := api.Def{Kind: api.DefKind(kind), Name: name, On: name, Sels: []api.Sel{sel, inner, sel}}
				checkSpoilt(t, types, api.Document{Defs: []api.Def{def, {}, def, {Kind: api.DefFragment, Name: name}}})
			}
		}
	}
}

// R1: literals and selections that are nested far deeper than any source's.
func TestNestedDeep(t *testing.T) {
	const levels = 1<<16 - 10
	list, object := api.Lit{Kind: api.LitInt, Text: "1"}, api.Lit{Kind: api.LitObject}
	flat := api.Sel{Kind: api.SelField, Name: "o", Pos: api.Pos{Line: 2}}
	deep, deepToo := api.Sel{Kind: api.SelField, Name: "x", Pos: api.Pos{Line: 3}}, api.Sel{Kind: api.SelField, Alias: "x", Name: "e", Pos: api.Pos{Line: 4}}
	for range levels {
		list = api.Lit{Kind: api.LitList, Items: []api.Lit{list}}
		object = api.Lit{Kind: api.LitObject, Fields: []api.LitField{{Name: "a", Value: object}, {Name: "c", Value: api.Lit{Kind: api.LitInt, Text: "1"}}}}
		flat = api.Sel{Kind: api.SelInline, Sels: []api.Sel{flat}}
		deep = api.Sel{Kind: api.SelField, Name: "self", Sels: []api.Sel{deep}}
		deepToo = api.Sel{Kind: api.SelField, Name: "self", Sels: []api.Sel{deepToo}}
	}
	args := []api.Arg{{Name: "x", Value: list}, {Name: "y", Value: object}}
	sels := []api.Sel{{Kind: api.SelField, Name: "o", Args: args, Pos: api.Pos{Line: 1}}, flat, deep, deepToo}
	s := scope.Lay(sound(t, zoo), api.Document{Defs: []api.Def{{Kind: api.DefQuery, Name: "Q", Sels: sels}}})
	if got, want := check.of(s), "1:0 2:0; 3:0 4:0"; got != want {
		t.Errorf("got %.200s, want %s", got, want)
	}
	if !overlap.Alike(s, 0, 0) || overlap.Alike(s, 0, levels+1) || !slices.Equal(overlap.Pairs(s), overlap.Shapes(s)) {
		t.Error("Alike, Pairs or Shapes")
	}
}
