package collect_test

import (
	"fmt"
	"math"
	"math/rand"
	"reflect"
	"strings"
	"testing"

	"pergola/api"
	"pergola/collect"
	"pergola/typesys"
)

// oddTexts are texts that are no names and no marks, and some that are.
func oddTexts() []string {
	return []string{"", "\xff", "a\xc3", " ", "]", "!", "__", "1", "a", "b", "F0", "F1", "I", "U", "V", "O", "P", "S", "E", "N", "Int", "Query", "Feed", "q", "i", "u", "s", "t", "skip", "include", "if", "true", "false", "__Type", strings.Repeat("]", 100), "é"}
}

func oddNumbers() []int {
	return []int{math.MinInt, -2, -1, 0, 1, 2, 3, 4, 5, 6, 7, 8, 9, 10, 1 << 16, math.MaxInt}
}

// spoiler changes parts of a thing in its place, each with the chance of one in rate.
type spoiler struct {
	r    *rand.Rand
	rate int
}

func (s spoiler) spoil(v reflect.Value) {
	hits := s.r.Intn(s.rate) == 0
	switch v.Kind() {
	case reflect.Struct:
		for i := range v.NumField() {
			s.spoil(v.Field(i))
		}
	case reflect.Slice:
		if hits {
			v.Set(s.list(v))
		}
		for i := range v.Len() {
			s.spoil(v.Index(i))
		}
	case reflect.String:
		if texts := oddTexts(); hits {
			v.SetString(texts[s.r.Intn(len(texts))])
		}
	case reflect.Bool:
		v.SetBool(v.Bool() != hits)
	case reflect.Int:
		if numbers := oddNumbers(); hits {
			v.SetInt(int64(numbers[s.r.Intn(len(numbers))]))
		}
	}
}

// list is a list with a zero element behind its own, or with each element twice, or none.
func (s spoiler) list(v reflect.Value) reflect.Value {
	switch s.r.Intn(3) {
	case 0:
		return reflect.Append(v, reflect.Zero(v.Type().Elem()))
	case 1:
		return reflect.AppendSlice(v.Slice3(0, v.Len(), v.Len()), v)
	}
	return reflect.Zero(v.Type())
}

// checkSpoilt: all calls end and don't panic, and answer the same again.
func checkSpoilt(t *testing.T, types *typesys.Types, doc api.Document, vars []api.Member) {
	t.Helper()
	defer func() {
		if err := recover(); err != nil {
			t.Fatalf("%#v, %#v: %v", doc, vars, err)
		}
	}()
	for op := -1; op <= len(doc.Defs) && op < 4; op++ {
		p := collect.New(types, doc, op, vars)
		first := fmt.Sprint(even(answers(p, types)))
		for _, again := range []*collect.Plan{p, collect.New(types, doc, op, vars)} {
			if got := fmt.Sprint(even(answers(again, types))); got != first {
				t.Errorf("%#v, %#v: at first %s, then %s", doc, vars, first, got)
			}
		}
	}
}

// R1: documents, variables and definitions that were right till something in them was changed.
func TestSpoilt(t *testing.T) {
	all := sound(t, zoo)
	for seed := range int64(600) {
		m := &maker{r: rand.New(rand.NewSource(seed)), types: all}
		s := spoiler{m.r, 2 + m.r.Intn(40)}
		doc := parse(t, m.document())
		vars := variables(t, all, doc, 0, m.given())
		types := all
		if seed%2 == 1 {
			defs := read(t, zoo)
			s.spoil(reflect.ValueOf(&defs).Elem())
			types = typesys.Build(defs)
		}
		if seed%3 > 0 {
			s.spoil(reflect.ValueOf(&doc).Elem())
			s.spoil(reflect.ValueOf(&vars).Elem())
		}
		checkSpoilt(t, types, doc, vars)
	}
}

// R1: type systems that are nil, empty, or of definitions that aren't sound.
func TestOddTypeSystems(t *testing.T) {
	systems := []*typesys.Types{nil, {}, typesys.Build(nil), typesys.Build([]api.SysDef{
		{Kind: api.SysObject, Name: "Query", Ifaces: []api.Named{{Name: "Query"}, {Name: "I"}, {Name: ""}, {Name: "I"}}, Members: []api.Named{{Name: "Query"}}},
		{Kind: api.SysInterface, Name: "I", Ifaces: []api.Named{{Name: "I"}, {Name: "J"}}},
		{Kind: api.SysInterface, Name: "J", Ifaces: []api.Named{{Name: "I"}, {Name: "J"}}},
		{Kind: api.SysUnion, Name: "U", Members: []api.Named{{Name: "U"}, {Name: "I"}, {Name: "Query"}, {Name: "Query"}, {Name: ""}}},
		{Kind: api.SysObject, Name: "O"}, {Kind: api.SysUnion, Name: "O", Members: []api.Named{{Name: "O"}}}, {Kind: api.SysObject, Name: ""},
		{Kind: -1, Name: "X"}, {Kind: math.MaxInt, Name: "V"},
	})}
	for _, defs := range []string{
		"schema {query: U mutation: Nope subscription: Query} union U = Query | I type Query {a: Nope}",
		"type Query implements Query & Nope {a: Int i: I} interface I implements I {a: Int} type Query {b: Int}",
		"schema {query: E} enum E {A} union U = U | V union V = U | E type O implements U {a: Int}",
	} {
		systems = append(systems, typesys.Build(read(t, defs)))
	}
	doc := parse(t, "{...F ... on U {a} i {... on Query {a} ... on J {...F}} ... on Nope {...G} ...G ...F} fragment F on I {a i {b}} fragment G on __Type {...G a} fragment H on O {a}")
	for _, types := range systems {
		checkSpoilt(t, types, doc, nil)
	}
}

// R1: of a nil type system the plan is one of no definitions.
func TestNoTypes(t *testing.T) {
	doc := parse(t, "{__schema {types {...F name}} __schema {types {kind}}} fragment F on __Type {name ... on Query {a}}")
	for _, types := range []*typesys.Types{nil, {}, typesys.Build(nil)} {
		p := collect.New(types, doc, 0, nil)
		if root, sub, none := told(p.Root()), told(p.Sub("__Type", []int{1, 5})), told(p.Sub("Query", []int{0})); root != "" || sub != "name: 7 3; kind: 6" || none != "" {
			t.Errorf("got %s, %s, %s", root, sub, none)
		}
	}
}

// R1: fragments on rings, and spreads of none; each ends, and each fragment is met once.
func TestRings(t *testing.T) {
	types := sound(t, zoo)
	doc := parse(t, "{...F ...Nope a} fragment F on I {k: a ...G ...F} fragment G on I {b ...F ...H} fragment H on I {i {...H} ...F l: b ...G}")
	p := collect.New(types, doc, 0, nil)
	if got := told(p.Root()); got != "k: 3; b: 6; i: 9; l: 12; a: 2" {
		t.Error(got)
	}
	if got := told(p.Sub("O", []int{9})); got != "i: 9; k: 3; b: 6; l: 12" {
		t.Error(got)
	}
	alike(t, "rings", answers(p, types), newModel(types, doc, 0, nil).answers())
}

// The first fragment of a name counts.
func TestFragmentsOfOneName(t *testing.T) {
	types := sound(t, zoo)
	doc := parse(t, "{...F a} fragment F on P {b} fragment F on Query {c: b} query {...G} fragment G on I {x: b} fragment G on Nope {y: b}")
	if got := told(collect.New(types, doc, 0, nil).Root()); got != "a: 1" {
		t.Error(got)
	}
	if got := told(collect.New(types, doc, 3, nil).Root()); got != "x: 5" {
		t.Error(got)
	}
}

// Where a directive stands twice, the first counts.
func TestDirectivesTwice(t *testing.T) {
	types := sound(t, zoo)
	for _, r := range []struct{ doc, want string }{
		{"{a @skip(if: true) @skip(if: false)}", ""},
		{"{a @skip(if: false) @skip(if: true)}", "a: 0"},
		{"{a @include(if: true) @include(if: false)}", "a: 0"},
		{"{a @include(if: false) @include(if: true)}", ""},
		{"{a @skip(if: false) @include(if: true) @skip(if: true)}", "a: 0"},
		{"{a @include(if: true) @skip(if: false) @include(if: false) @skip}", "a: 0"},
		{"{... @skip(if: false) @skip(if: true) {a} b @skip(if: true) @include(if: true)}", "a: 1"},
		// One without an if, or with one that is neither true nor false, isn't true.
		{"{a @skip b @include i @skip(if: null) u @include(if: null) q @skip(unless: true)}", "a: 0; i: 2; q: 4"},
		{"{a @skip(if: 1) b @skip(if: \"true\") i @skip(if: [true]) u @include(if: {if: true}) q @include(if: True)}", "a: 0; b: 1; i: 2"},
	} {
		if got := told(collect.New(types, parse(t, r.doc), 0, nil).Root()); got != r.want {
			t.Errorf("%s: got %s, want %s", r.doc, got, r.want)
		}
	}
}

// R1: kinds that are none, with all parts and with none.
func TestKindsThatAreNone(t *testing.T) {
	types := sound(t, zoo)
	for _, n := range oddNumbers() {
		for _, name := range []string{"", "a", "F", "Query"} {
			args := []api.Arg{{Name: "if", Value: api.Lit{Kind: api.LitKind(n), Text: name}}, {Name: "if"}}
			spread := api.Sel{Kind: api.SelSpread, Name: name, Dirs: []api.Dir{{Name: "skip", Args: args}, {Name: "include"}}}
			sel := api.Sel{Kind: api.SelKind(n), Alias: name, Name: "a", On: name, Dirs: []api.Dir{{Name: "include", Args: args}, {}}, Sels: []api.Sel{spread, {}, {Kind: api.SelKind(n)}}}
			spread.Sels, spread.Dirs = []api.Sel{sel}, nil
			for _, kind := range oddNumbers() {
				def := api.Def{Kind: api.DefKind(kind), Name: name, On: name, Sels: []api.Sel{sel, spread, {Kind: api.SelKind(n), Name: "a", Sels: []api.Sel{sel}}}}
				doc := api.Document{Defs: []api.Def{def, {}, {Kind: api.DefFragment, Name: name, On: "I", Sels: def.Sels}}}
				checkSpoilt(t, types, doc, []api.Member{{Name: name, Value: api.Value{Kind: api.Kind(n), Bool: true}}, {}})
			}
		}
	}
}
