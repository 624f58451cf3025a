package frags_test

import (
	"math"
	"math/rand"
	"reflect"
	"strings"
	"testing"

	"pergola/api"
	"pergola/frags"
	"pergola/scope"
	"pergola/typesys"
)

// oddTexts are texts that are no names and no marks, and some that are.
func oddTexts() []string {
	return []string{"", "\xff", "a\xc3", " ", "]", "!", "!!", "__", "1", "A", "F", "G", "H", "E", "N", "O", "U", "L", "In", "Int", "Root", "n", "x", "self", "__Type", "__typename", strings.Repeat("]", 100), "é"}
}

func oddNumbers() []int {
	return []int{math.MinInt, -2, -1, 0, 1, 2, 3, 4, 5, 6, 7, 8, 9, 10, 1 << 16, math.MaxInt}
}

// spoiler changes parts of a value in its place, each with the chance of one in rate.
type spoiler struct {
	r    *rand.Rand
	rate int
}

func (s spoiler) spoil(v reflect.Value) {
	hits := s.r.Intn(s.rate) == 0
	switch v.Kind() {
	case reflect.Struct:
		for i := range v.NumField() {
			s.spoil(v.Field(i))
		}
	case reflect.Slice:
		if hits {
			v.Set(s.list(v))
		}
		for i := range v.Len() {
			s.spoil(v.Index(i))
		}
	case reflect.String:
		if texts := oddTexts(); hits {
			v.SetString(texts[s.r.Intn(len(texts))])
		}
	case reflect.Bool:
		v.SetBool(v.Bool() != hits)
	case reflect.Int:
		if numbers := oddNumbers(); hits {
			v.SetInt(int64(numbers[s.r.Intn(len(numbers))]))
		}
	}
}

// list is a list with a zero element behind its own, or with each element twice, or none.
func (s spoiler) list(v reflect.Value) reflect.Value {
	switch s.r.Intn(3) {
	case 0:
		return reflect.Append(v, reflect.Zero(v.Type().Elem()))
	case 1:
		return reflect.AppendSlice(v.Slice3(0, v.Len(), v.Len()), v)
	}
	return reflect.Zero(v.Type())
}

// checkSpoilt: Check ends and doesn't panic, and answers the same again.
func checkSpoilt(t *testing.T, types *typesys.Types, doc api.Document) {
	t.Helper()
	defer func() {
		if err := recover(); err != nil {
			t.Fatalf("%#v: %v", doc, err)
		}
	}()
	s := scope.Lay(types, doc)
	first := told(frags.Check(s))
	for _, again := range []*scope.Sheet{s, scope.Lay(types, doc)} {
		if got := told(frags.Check(again)); got != first {
			t.Errorf("%#v: at first %s, then %s", doc, first, got)
		}
	}
}

// R1: documents and definitions that were well made till something in them was changed; type systems that aren't sound, nil among them.
func TestSpoilt(t *testing.T) {
	all := sound(t, zoo)
	for seed := range int64(1500) {
		m := &maker{r: rand.New(rand.NewSource(seed)), types: all, slip: 10}
		s := spoiler{m.r, 2 + m.r.Intn(40)}
		doc := parse(t, m.document())
		types := m.types
		if seed%2 == 1 {
			defs := read(t, zoo)
			s.spoil(reflect.ValueOf(&defs).Elem())
			types = typesys.Build(defs)
		}
		if seed%3 > 0 {
			s.spoil(reflect.ValueOf(&doc).Elem())
		}
		checkSpoilt(t, types, doc)
		if seed%10 == 0 {
			checkSpoilt(t, nil, doc)
			checkSpoilt(t, &typesys.Types{}, doc)
		}
	}
}

// R1: well-made definitions that aren't sound, and well-made documents.
func TestUnsound(t *testing.T) {
	for _, src := range []string{
		"type A{a:Int a:X} type A{b:Int} union U=A|A|X|U interface I implements I&X type A implements I&I",
		"schema{query:X mutation:P subscription:E} input P{a:P! a:Q b:Int=A} enum E{A}",
		"type Query{__typename:Int a:P u:U} input P{a:Query} union U=P|Nope|Query union V=U",
		"interface Query{a:Int} union Mutation union U",
		"schema{query:Q} input Q{a:Q!={a:{}}} type Subscription{a:Q}",
	} {
		for _, doc := range []string{rightAll, everything, "{a{...F ...on P{a}} ...on U{...F ...on V{a}}} mutation{...F} subscription{...on U{...F}} fragment F on U{...F} fragment P on P{...P}"} {
			checkSpoilt(t, typesys.Build(read(t, src)), parse(t, doc))
		}
	}
}

// R1: a nil type system, and one that nothing was laid into, are that of no definitions.
func TestNoTypes(t *testing.T) {
	doc := parse(t, "{... on __Type {...F ... on __Schema {...F}} ... on Root {...F}} fragment F on __Type {kind {... on __TypeKind {a}}} fragment G on Int {...G ...H}")
	for _, types := range []*typesys.Types{nil, {}, typesys.Build(nil)} {
		want := "Type 1:46; Kind 1:94; Kind 1:118; None 1:142; Ring 1:137; Never 1:22; Never 1:39"
		if got := told(frags.Check(scope.Lay(types, doc))); got != want {
			t.Errorf("got %s, want %s", got, want)
		}
	}
}

// R1: kinds that are none, with all parts and with none.
func TestKindsThatAreNone(t *testing.T) {
	types := sound(t, zoo)
	for _, n := range oddNumbers() {
		spread := api.Sel{Kind: api.SelSpread, Name: "F", On: "O"}
		for _, name := range []string{"", "f", "F", "O"} {
			sel := api.Sel{Kind: api.SelKind(n), Alias: "k", Name: name, On: name, Sels: []api.Sel{spread, {}, {Kind: api.SelKind(n)}}}
			spread.Sels = []api.Sel{sel}
			for _, kind := range oddNumbers() {
				def := api.Def{Kind: api.DefKind(kind), Name: name, On: name, Sels: []api.Sel{sel, spread, sel}}
				checkSpoilt(t, types, api.Document{Defs: []api.Def{def, {}, def, {Kind: api.DefFragment, Name: name}}})
			}
		}
	}
}

// R1: selections that are nested far deeper than any source's.
func TestNestedDeep(t *testing.T) {
	const levels = 1<<16 - 10
	spread := api.Sel{Kind: api.SelSpread, Name: "F", Pos: api.Pos{Line: 1, Col: 1}}
	inline := api.Sel{Kind: api.SelInline, On: "Q", Sels: []api.Sel{spread}, Pos: api.Pos{Line: 1, Col: 2}}
	for range levels {
		spread = api.Sel{Kind: api.SelField, Name: "self", Sels: []api.Sel{spread}, Pos: api.Pos{Line: 1, Col: 3}}
		inline = api.Sel{Kind: api.SelInline, On: "O", Sels: []api.Sel{inline}, Pos: api.Pos{Line: 1, Col: 4}}
	}
	s := scope.Lay(sound(t, zoo), api.Document{Defs: []api.Def{{Kind: api.DefFragment, Name: "F", On: "O", Sels: []api.Sel{spread, inline}, Pos: api.Pos{Line: 2, Col: 1}}}})
	if got, want := told(frags.Check(s)), "Ring 1:1; Never 1:1; Never 1:2"; got != want {
		t.Errorf("got %.200s, want %s", got, want)
	}
}
