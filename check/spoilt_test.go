package check_test

import (
	"math"
	"math/rand"
	"reflect"
	"strings"
	"testing"

	"pergola/api"
	"pergola/check"
	"pergola/typesys"
)

// oddTexts are texts that are no names and no marks, and some that are.
func oddTexts() []string {
	return []string{"", "\xff", "a\xc3", " ", "]", "!", "!!", "!]!", "__", "1", "a", "f", "i", "n", "p", "q", "F", "G", "H", "E", "P", "S", "U", "I", "Int", "Query", "Apart", "one", "many", "skip", "if", "__Type", strings.Repeat("]", 100), "é"}
}

func oddNumbers() []int {
	return []int{math.MinInt, -2, -1, 0, 1, 2, 3, 4, 5, 6, 7, 8, 9, 10, 1 << 16, math.MaxInt}
}

// spoiler changes parts of a value in its place, each with the chance of one in rate.
type spoiler struct {
	r    *rand.Rand
	rate int
}

func (s spoiler) spoil(v reflect.Value) {
	hits := s.r.Intn(s.rate) == 0
	switch v.Kind() {
	case reflect.Struct:
		for i := range v.NumField() {
			s.spoil(v.Field(i))
		}
	case reflect.Slice:
		if hits {
			v.Set(s.list(v))
		}
		for i := range v.Len() {
			s.spoil(v.Index(i))
		}
	case reflect.String:
		if texts := oddTexts(); hits {
			v.SetString(texts[s.r.Intn(len(texts))])
		}
	case reflect.Bool:
		v.SetBool(v.Bool() != hits)
	case reflect.Int:
		if numbers := oddNumbers(); hits {
			v.SetInt(int64(numbers[s.r.Intn(len(numbers))]))
		}
	}
}

// list is a list with a zero element behind its own, or with each element twice, or none.
func (s spoiler) list(v reflect.Value) reflect.Value {
	switch s.r.Intn(3) {
	case 0:
		return reflect.Append(v, reflect.Zero(v.Type().Elem()))
	case 1:
		return reflect.AppendSlice(v.Slice3(0, v.Len(), v.Len()), v)
	}
	return reflect.Zero(v.Type())
}

// checkSpoilt: both calls end and don't panic, and answer the same again.
func checkSpoilt(t *testing.T, types *typesys.Types, doc api.Document) {
	t.Helper()
	faults, deep := told(check.All(types, doc)), depths(doc)
	for range 2 {
		if got := told(check.All(types, doc)); got != faults {
			t.Errorf("All of %#v: at first %s, then %s", doc, faults, got)
		}
		if got := depths(doc); got != deep {
			t.Errorf("Deep of %#v: at first %s, then %s", doc, deep, got)
		}
	}
}

// R1: documents and definitions that were well made till something in them was changed; type systems that aren't sound, nil among them.
func TestSpoilt(t *testing.T) {
	all := sound(t, zoo)
	for seed := range int64(2000) {
		m := &maker{r: rand.New(rand.NewSource(seed)), types: all, slip: 10}
		s := spoiler{m.r, 2 + m.r.Intn(40)}
		doc := parse(t, m.document())
		types := m.types
		if seed%2 == 1 {
			defs := read(t, zoo)
			s.spoil(reflect.ValueOf(&defs).Elem())
			types = typesys.Build(defs)
		}
		if seed%3 > 0 {
			s.spoil(reflect.ValueOf(&doc).Elem())
		}
		checkSpoilt(t, types, doc)
		if seed%10 == 0 {
			checkSpoilt(t, nil, doc)
			checkSpoilt(t, &typesys.Types{}, doc)
		}
	}
}

// R1: well-made definitions that aren't sound, and well-made documents.
func TestUnsound(t *testing.T) {
	for _, src := range []string{
		"type Query{a:Nope f(i:X i:Query n:Query!):Int f(i:Int):X q:[Query!]! q:Int} type Query{b:Int} directive @one(k:Nope k:Int p:Query)on FIELD",
		"schema{query:X mutation:P subscription:E} input P{n:P! n:Q b:Int=A} enum E{A}",
		"type Query{f(p:P i:Query n:P!={}):Int q(b:Nope):P i:U u:I} input P{n:Query p:P!={p:{}}} union U=U|P|Nope interface I implements I{a:I}",
		"interface Query{f(i:Int):Int q:Query} union Feed union U scalar I",
		"schema{query:Q} input Q{a:Q!={a:{}}} type Subscription{f(i:Q):Q}",
	} {
		for _, doc := range []string{right, wrong, "query($v:P $v:Query $w:[A!]!=1){f(i:$v n:$w p:{p:[$v]n:{n:$w}})@one(k:$v p:$w)q{f}...F} fragment F on Query{q f(i:$w n:{p:$u})...F} fragment F on Q{f(i:$v)}"} {
			checkSpoilt(t, typesys.Build(read(t, src)), parse(t, doc))
		}
	}
}

// R1: a nil type system, and one that nothing was laid into, are that of no definitions.
func TestNoTypes(t *testing.T) {
	doc := parse(t, "query ($a: Int) {...F x} fragment F on __Type {name fields(includeDeprecated: $a) {name} nope}")
	want := "OpRoot 1:1; FieldNone 1:90; VarPlace 1:8 1:79"
	for _, types := range []*typesys.Types{nil, {}, typesys.Build(nil)} {
		if got := told(check.All(types, doc)); got != want {
			t.Errorf("got %s, want %s", got, want)
		}
	}
}

// R1: kinds that are none, with all parts and with none.
func TestKindsThatAreNone(t *testing.T) {
	types := sound(t, zoo)
	for _, n := range oddNumbers() {
		for _, name := range []string{"", "F"} {
			lit := api.Lit{Kind: api.LitKind(n), Text: name, Items: []api.Lit{{Kind: api.LitVar, Text: name}, {}}, Fields: []api.LitField{{Name: name, Value: api.Lit{Kind: api.LitVar}}, {}}}
			args := []api.Arg{{Name: name, Value: lit}, {Name: "i", Value: api.Lit{Kind: api.LitVar, Text: name}}, {}}
			spread := api.Sel{Kind: api.SelSpread, Name: name, Args: args, Sels: []api.Sel{fieldOf(spreadOf(name))}}
			sel := api.Sel{Kind: api.SelKind(n), Alias: "k", Name: "f", On: name, Args: args, Dirs: []api.Dir{{Name: "one", Args: args}, {}}, Sels: []api.Sel{spread, {}, {Kind: api.SelKind(n)}}}
			for _, kind := range oddNumbers() {
				vars := []api.VarDef{{Name: name, Type: api.TypeRef{Name: "Int", Wrap: name}, HasDefault: true, Default: lit}, {}, {Name: name}}
				def := api.Def{Kind: api.DefKind(kind), Name: name, On: name, Vars: vars, Sels: []api.Sel{sel, spread, sel}}
				checkSpoilt(t, types, api.Document{Defs: []api.Def{def, {}, def, {Kind: api.DefFragment, Name: name, Vars: vars}}})
			}
		}
	}
}

// R1: selections that are nested far deeper than any source's.
func TestNestedDeep(t *testing.T) {
	const levels = 1<<16 - 100
	sel := api.Sel{Kind: api.SelField, Name: "a", Pos: api.Pos{Line: 1, Col: 1}}
	inline := spreadOf("F")
	for range levels {
		sel = api.Sel{Kind: api.SelField, Name: "q", Sels: []api.Sel{sel}}
		inline = api.Sel{Kind: api.SelInline, Sels: []api.Sel{inline}}
	}
	doc := api.Document{Defs: []api.Def{{Kind: api.DefQuery, Sels: []api.Sel{inline}}, {Kind: api.DefFragment, Name: "F", On: "Query", Sels: []api.Sel{sel}}}}
	if got := told(check.All(sound(t, zoo), doc)); got != "" {
		t.Errorf("got %.200s", got)
	}
	if got := depths(doc); got != "65437 65437" {
		t.Error("depths:", got)
	}
}
