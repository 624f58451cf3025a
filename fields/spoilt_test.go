package fields_test

import (
	"math"
	"math/rand"
	"reflect"
	"strings"
	"testing"

	"pergola/api"
	"pergola/scope"
	"pergola/typesys"
)

// oddTexts are texts that are no names and no marks, and some that are.
func oddTexts() []string {
	return []string{"", "\xff", "a\xc3", " ", "]", "!", "!!", "]x!", "__", "1", "A", "E", "S", "O", "P", "Int", "Root", "k", "x", "F", "all", "many", "skip", "if", "__Type", "__typename", "(all literals)", "0", strings.Repeat("]", 100), "é"}
}

func oddNumbers() []int {
	return []int{math.MinInt, -2, -1, 0, 1, 2, 3, 4, 5, 6, 7, 8, 9, 10, 1 << 16, math.MaxInt}
}

// spoiler changes parts of a value in its place, each with the chance of one in rate.
type spoiler struct {
	r    *rand.Rand
	rate int
}

func (s spoiler) spoil(v reflect.Value) {
	hits := s.r.Intn(s.rate) == 0
	switch v.Kind() {
	case reflect.Struct:
		for i := range v.NumField() {
			s.spoil(v.Field(i))
		}
	case reflect.Slice:
		if hits {
			v.Set(s.list(v))
		}
		for i := range v.Len() {
			s.spoil(v.Index(i))
		}
	case reflect.String:
		if texts := oddTexts(); hits {
			v.SetString(texts[s.r.Intn(len(texts))])
		}
	case reflect.Bool:
		v.SetBool(v.Bool() != hits)
	case reflect.Int:
		if numbers := oddNumbers(); hits {
			v.SetInt(int64(numbers[s.r.Intn(len(numbers))]))
		}
	}
}

// list is a list with a zero element behind its own, or with each element twice, or none.
func (s spoiler) list(v reflect.Value) reflect.Value {
	switch s.r.Intn(3) {
	case 0:
		return reflect.Append(v, reflect.Zero(v.Type().Elem()))
	case 1:
		return reflect.AppendSlice(v.Slice3(0, v.Len(), v.Len()), v)
	}
	return reflect.Zero(v.Type())
}

// checkSpoilt: every call ends and none panics, and all answer the same again.
func checkSpoilt(t *testing.T, types *typesys.Types, doc api.Document) {
	t.Helper()
	defer func() {
		if err := recover(); err != nil {
			t.Fatalf("%#v: %v", doc, err)
		}
	}()
	s, other := scope.Lay(types, doc), scope.Lay(types, doc)
	for _, c := range allCalls() {
		first := told(c.of(s))
		if again := told(c.of(s)); again != first {
			t.Errorf("%v: at first %s, then %s", c, first, again)
		}
		if again := told(c.of(other)); again != first {
			t.Errorf("%v: of one sheet %s, of another %s", c, first, again)
		}
	}
}

// R1: documents and definitions that were well made till something in them was changed; type systems that aren't sound, nil among them.
func TestSpoilt(t *testing.T) {
	all := systems(t)
	for seed := range int64(800) {
		m := &maker{r: rand.New(rand.NewSource(seed)), types: all[seed%int64(len(all))], slip: 10}
		s := spoiler{m.r, 2 + m.r.Intn(40)}
		doc := parse(t, m.document())
		types := m.types
		if seed%2 == 1 {
			defs := read(t, zoo)
			s.spoil(reflect.ValueOf(&defs).Elem())
			types = typesys.Build(defs)
		}
		if seed%3 > 0 {
			s.spoil(reflect.ValueOf(&doc).Elem())
		}
		checkSpoilt(t, types, doc)
		if seed%10 == 0 {
			checkSpoilt(t, nil, doc)
			checkSpoilt(t, &typesys.Types{}, doc)
		}
	}
}

// R1: well-made definitions that aren't sound, and well-made documents.
func TestUnsound(t *testing.T) {
	for _, src := range []string{
		"type A{a:Int a:X} type A{b:Int} union U=A|A|X|U interface I implements I&X type A implements I&I",
		"schema{query:X mutation:P subscription:E} input P{a:P! a:Q b:Int=A} enum E{A}",
		"type Query{__typename:Int __schema(x:Int x:ID!):Int a(x:Query! y:Nope=1 y:Int):P} input P{a:Query a:Int b:Nope=1}",
		"interface Query{a:Int} union Mutation directive@d(x:X=1 x:Int y:Query)on FIELD directive@skip on QUERY",
		"schema{query:Q} input Q{a:Q!={a:{}}} type Subscription{a:Q}",
	} {
		for _, doc := range []string{rightAll, everything, "{a(x:$v y:[1] z:{a:{a:1} b:$x}) @d(x:$v y:A) {a}} mutation{a{a}} subscription{A} {...on P{a} ...on U{a}}"} {
			checkSpoilt(t, typesys.Build(read(t, src)), parse(t, doc))
		}
	}
}

// R1: a nil type system, and one that nothing was laid into, are that of no definitions.
func TestNoTypes(t *testing.T) {
	doc := parse(t, "query ($v: Int = A) @d {a ... on __Type @skip {nope fields(includeDeprecated: 1 x: 2) kind {a}}} fragment F on __Schema {types}")
	for _, types := range []*typesys.Types{nil, {}, typesys.Build(nil)} {
		want := "OpRoot 1:1; FieldNone 1:48; LeafSels 1:87; NoSels 1:53; NoSels 1:122; ArgNone 1:81; ArgMissing 1:41; Value 1:18; Value 1:79; DirNone 1:21"
		if got := told(check.of(scope.Lay(types, doc))); got != want {
			t.Errorf("got %s, want %s", got, want)
		}
	}
}

// R1: kinds that are none, with all parts and with none.
func TestKindsThatAreNone(t *testing.T) {
	types := sound(t, zoo)
	for _, n := range oddNumbers() {
		lit := api.Lit{Kind: api.LitKind(n), Text: "v", Items: make([]api.Lit, 2), Fields: make([]api.LitField, 2)}
		args := []api.Arg{{}, {Name: "x", Value: lit}, {Name: "y", Value: api.Lit{Kind: api.LitList, Items: []api.Lit{lit}}}}
		dirs := []api.Dir{{}, {Name: "all", Args: args}, {Name: "", Args: args}}
		inner := api.Sel{Kind: api.SelField, Name: "o"}
		for _, name := range []string{"", "f", "F", "O"} {
			sel := api.Sel{Kind: api.SelKind(n), Alias: "k", Name: name, On: name, Args: args, Dirs: dirs, Sels: []api.Sel{inner, {}, {Kind: api.SelKind(n)}}}
			for _, kind := range oddNumbers() {
				vars := []api.VarDef{{}, {HasDefault: true, Default: lit, Dirs: dirs}, {HasDefault: true}, {Default: lit}}
				def := api.Def{Kind: api.DefKind(kind), Name: name, On: name, Vars: vars, Dirs: dirs, Sels: []api.Sel{sel, inner}}
				checkSpoilt(t, types, api.Document{Defs: []api.Def{def, {}, def}})
			}
		}
	}
}

// R1: literals and selections that are nested far deeper than any source's.
func TestNestedDeep(t *testing.T) {
	const levels = 1<<16 - 10
	list, object := api.Lit{Kind: api.LitInt, Text: "1"}, api.Lit{Kind: api.LitObject}
	top := api.Sel{Kind: api.SelField, Name: "o"}
	sel := api.Sel{Kind: api.SelField, Name: "nope"}
	for range levels {
		list = api.Lit{Kind: api.LitList, Items: []api.Lit{list}}
		object = api.Lit{Kind: api.LitObject, Fields: []api.LitField{{Name: "a", Value: object}, {Name: "c", Value: api.Lit{Kind: api.LitInt, Text: "1"}}}}
		top = api.Sel{Kind: api.SelInline, Sels: []api.Sel{top}}
		sel = api.Sel{Kind: api.SelField, Name: "self", Sels: []api.Sel{sel}}
	}
	args := []api.Arg{{Name: "x", Value: list}, {Name: "y", Value: object}}
	defs := []api.Def{
		{Kind: api.DefQuery, Name: "Q", Sels: []api.Sel{{Kind: api.SelField, Name: "f", Args: args}, sel}},
		{Kind: api.DefSubscription, Name: "S", Sels: []api.Sel{top}},
	}
	s := scope.Lay(sound(t, zoo), api.Document{Defs: defs})
	want := "FieldNone 0:0; NoSels 0:0; Value 0:0; InFieldMissing 0:0"
	if got := told(check.of(s)); got != want {
		t.Errorf("got %.200s, want %s", got, want)
	}
}
