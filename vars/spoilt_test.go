package vars_test

import (
	"math"
	"math/rand"
	"reflect"
	"strings"
	"testing"

	"pergola/api"
	"pergola/scope"
	"pergola/typesys"
	"pergola/vars"
)

// oddTexts are texts that are no names and no marks, and some that are.
func oddTexts() []string {
	return []string{"", "\xff", "a\xc3", " ", "]", "!", "!!", "!]!", "__", "1", "a", "b", "F", "G", "H", "E", "P", "S", "U", "Int", "Root", "f", "i", "n", "self", "skip", "if", "__Type", strings.Repeat("]", 100), "é"}
}

func oddNumbers() []int {
	return []int{math.MinInt, -2, -1, 0, 1, 2, 3, 4, 5, 6, 7, 8, 9, 10, 1 << 16, math.MaxInt}
}

// spoiler changes parts of a value in its place, each with the chance of one in rate.
type spoiler struct {
	r    *rand.Rand
	rate int
}

func (s spoiler) spoil(v reflect.Value) {
	hits := s.r.Intn(s.rate) == 0
	switch v.Kind() {
	case reflect.Struct:
		for i := range v.NumField() {
			s.spoil(v.Field(i))
		}
	case reflect.Slice:
		if hits {
			v.Set(s.list(v))
		}
		for i := range v.Len() {
			s.spoil(v.Index(i))
		}
	case reflect.String:
		if texts := oddTexts(); hits {
			v.SetString(texts[s.r.Intn(len(texts))])
		}
	case reflect.Bool:
		v.SetBool(v.Bool() != hits)
	case reflect.Int:
		if numbers := oddNumbers(); hits {
			v.SetInt(int64(numbers[s.r.Intn(len(numbers))]))
		}
	}
}

// list is a list with a zero element behind its own, or with each element twice, or none.
func (s spoiler) list(v reflect.Value) reflect.Value {
	switch s.r.Intn(3) {
	case 0:
		return reflect.Append(v, reflect.Zero(v.Type().Elem()))
	case 1:
		return reflect.AppendSlice(v.Slice3(0, v.Len(), v.Len()), v)
	}
	return reflect.Zero(v.Type())
}

// checkSpoilt: all calls end and don't panic, and answer the same again.
func checkSpoilt(t *testing.T, types *typesys.Types, doc api.Document) {
	t.Helper()
	defer func() {
		if err := recover(); err != nil {
			t.Fatalf("%#v: %v", doc, err)
		}
	}()
	s := scope.Lay(types, doc)
	for _, r := range allCalls() {
		first := told(r.call(s))
		for _, again := range []*scope.Sheet{s, scope.Lay(types, doc)} {
			if got := told(r.call(again)); got != first {
				t.Errorf("%s of %#v: at first %s, then %s", r.name, doc, first, got)
			}
		}
	}
}

// R1: documents and definitions that were well made till something in them was changed; type systems that aren't sound, nil among them.
func TestSpoilt(t *testing.T) {
	all := sound(t, zoo)
	for seed := range int64(1500) {
		m := &maker{r: rand.New(rand.NewSource(seed)), types: all, slip: 10}
		s := spoiler{m.r, 2 + m.r.Intn(40)}
		doc := parse(t, m.document())
		types := m.types
		if seed%2 == 1 {
			defs := read(t, zoo)
			s.spoil(reflect.ValueOf(&defs).Elem())
			types = typesys.Build(defs)
		}
		if seed%3 > 0 {
			s.spoil(reflect.ValueOf(&doc).Elem())
		}
		checkSpoilt(t, types, doc)
		if seed%10 == 0 {
			checkSpoilt(t, nil, doc)
			checkSpoilt(t, &typesys.Types{}, doc)
		}
	}
}

// R1: well-made definitions that aren't sound, and well-made documents.
func TestUnsound(t *testing.T) {
	for _, src := range []string{
		"type A{f(i:X i:A n:A!):Int f(i:Int):X} type A{b:Int} directive @d(i:Nope i:Int p:A)on FIELD",
		"schema{query:X mutation:P subscription:E} input P{a:P! a:Q b:Int=A} enum E{A}",
		"type Query{f(p:P i:Query n:P!={}):Int self(b:Nope):Query} input P{n:Query l:[P!]! p:P!={p:{}}}",
		"interface Query{f(i:Int):Int} union Mutation union U",
		"schema{query:Q} input Q{a:Q!={a:{}}} type Subscription{f(i:Q):Q}",
	} {
		for _, doc := range []string{rightAll, everything, "query($a:P $a:Query $b:[A!]!=1){f(i:$a n:$b p:{l:[$a] p:{n:$b}})@d(i:$a p:$b) ...F} fragment F on A{f(i:$b n:{p:$c})...F} fragment F on Q{f(i:$a)}"} {
			checkSpoilt(t, typesys.Build(read(t, src)), parse(t, doc))
		}
	}
}

// R1: a nil type system, and one that nothing was laid into, are that of no definitions.
func TestNoTypes(t *testing.T) {
	doc := parse(t, "query ($a: Int $b: Root $c: Boolean! $c: ID) {... @skip(if: $a) {x @include(if: $b)} ...F f(n: $a)} fragment F on __Type {fields(includeDeprecated: $a) {name} x(i: $e)}")
	for _, types := range []*typesys.Types{nil, {}, typesys.Build(nil)} {
		want := "Twice 1:25 1:38; Type 1:16; None 1:165 1:1; Unused 1:25; Unused 1:38; Place 1:8 1:61; Place 1:8 1:149"
		if got := told(vars.Check(scope.Lay(types, doc))); got != want {
			t.Errorf("got %s, want %s", got, want)
		}
	}
}

// R1: kinds that are none, with all parts and with none.
func TestKindsThatAreNone(t *testing.T) {
	types := sound(t, zoo)
	for _, n := range oddNumbers() {
		spread := api.Sel{Kind: api.SelSpread, Name: "F", Args: []api.Arg{{Name: "i", Value: api.Lit{Kind: api.LitVar, Text: "F"}}}}
		for _, name := range []string{"", "f", "F", "i"} {
			lit := api.Lit{Kind: api.LitKind(n), Text: name, Items: []api.Lit{{Kind: api.LitVar, Text: name}, {}}, Fields: []api.LitField{{Name: name, Value: api.Lit{Kind: api.LitVar}}, {}}}
			args := []api.Arg{{Name: name, Value: lit}, {Name: "i", Value: api.Lit{Kind: api.LitVar, Text: name}}}
			sel := api.Sel{Kind: api.SelKind(n), Alias: "k", Name: "f", On: name, Args: args, Dirs: []api.Dir{{Name: "d", Args: args}}, Sels: []api.Sel{spread, {}, {Kind: api.SelKind(n)}}}
			spread.Sels = []api.Sel{sel}
			for _, kind := range oddNumbers() {
				vars := []api.VarDef{{Name: name, Type: api.TypeRef{Name: "Int", Wrap: name}, HasDefault: true, Default: lit}, {}, {Name: name}}
				def := api.Def{Kind: api.DefKind(kind), Name: name, On: name, Vars: vars, Sels: []api.Sel{sel, spread, sel}}
				checkSpoilt(t, types, api.Document{Defs: []api.Def{def, {}, def, {Kind: api.DefFragment, Name: name, Vars: vars}}})
			}
		}
	}
}

// R1: selections and literals that are nested far deeper than any source's.
func TestNestedDeep(t *testing.T) {
	const levels = 1<<16 - 100
	lit := api.Lit{Kind: api.LitVar, Text: "a", Pos: api.Pos{Line: 1, Col: 1}}
	for range levels {
		lit = api.Lit{Kind: api.LitObject, Fields: []api.LitField{{Name: "p", Value: lit}}}
	}
	sel := api.Sel{Kind: api.SelField, Name: "f", Args: []api.Arg{{Name: "p", Value: api.Lit{Kind: api.LitVar, Text: "b", Pos: api.Pos{Line: 1, Col: 2}}}}}
	for range levels {
		sel = api.Sel{Kind: api.SelField, Name: "self", Sels: []api.Sel{sel}}
	}
	top := api.Sel{Kind: api.SelField, Name: "f", Args: []api.Arg{{Name: "p", Value: lit}}}
	s := scope.Lay(sound(t, zoo), api.Document{Defs: []api.Def{{Kind: api.DefQuery, Vars: []api.VarDef{{Name: "a", Type: api.TypeRef{Name: "Int"}, Pos: api.Pos{Line: 2, Col: 1}}}, Sels: []api.Sel{top, sel}, Pos: api.Pos{Line: 2, Col: 2}}}})
	if got, want := told(vars.Check(s)), "None 1:2 2:2; Place 2:1 1:1"; got != want {
		t.Errorf("got %.200s, want %s", got, want)
	}
}
