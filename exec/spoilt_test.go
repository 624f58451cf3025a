package exec_test

import (
	"fmt"
	"math"
	"math/rand"
	"reflect"
	"strings"
	"testing"

	"pergola/api"
	"pergola/exec"
	"pergola/typesys"
)

// oddTexts are texts that are no names and no marks, and some that are.
func oddTexts() []string {
	return []string{"", "\xff", "a\xc3", " ", "]", "!", "!!", "]!!", "__", "1", "a", "b", "F0", "F1", "I", "U", "V", "O", "P", "S", "E", "Int", "Query", "Feed", "q", "i", "is", "u", "s", "t", "skip", "include", "if", "true", "false", "__Type", "__Schema", "__schema", "__typename", "name", strings.Repeat("]", 100), "é", "/a"}
}

func oddNumbers() []int64 {
	return []int64{math.MinInt64, -2, -1, 0, 1, 2, 3, 4, 5, 6, 7, 8, 9, 10, 1 << 16, math.MaxInt64}
}

// spoiler changes parts of a thing in its place, each with the chance of one in rate.
type spoiler struct {
	r    *rand.Rand
	rate int
}

func (s spoiler) spoil(v reflect.Value) {
	hits := s.r.Intn(s.rate) == 0
	switch v.Kind() {
	case reflect.Struct:
		for i := range v.NumField() {
			s.spoil(v.Field(i))
		}
	case reflect.Slice:
		if hits {
			v.Set(s.list(v))
		}
		for i := range v.Len() {
			s.spoil(v.Index(i))
		}
	case reflect.String:
		if texts := oddTexts(); hits {
			v.SetString(texts[s.r.Intn(len(texts))])
		}
	case reflect.Bool:
		v.SetBool(v.Bool() != hits)
	case reflect.Int, reflect.Int64:
		if numbers := oddNumbers(); hits {
			v.SetInt(numbers[s.r.Intn(len(numbers))])
		}
	}
}

// list is a list with a zero element behind its own, or with each element twice, or none.
func (s spoiler) list(v reflect.Value) reflect.Value {
	switch s.r.Intn(3) {
	case 0:
		return reflect.Append(v, reflect.Zero(v.Type().Elem()))
	case 1:
		return reflect.AppendSlice(v.Slice3(0, v.Len(), v.Len()), v)
	}
	return reflect.Zero(v.Type())
}

// checkSpoilt: Run ends and doesn't panic, and answers the same again.
func checkSpoilt(t *testing.T, types *typesys.Types, doc api.Document, vars []api.Member, entries []api.Entry) {
	t.Helper()
	for op := -1; op <= len(doc.Defs) && op < 4; op++ {
		for _, nodes := range []int{300, 7} {
			first := fmt.Sprint(even(exec.Run(types, doc, op, vars, entries, nodes)))
			if again := fmt.Sprint(even(exec.Run(types, doc, op, vars, entries, nodes))); again != first {
				t.Errorf("%.2000v, %v: at first %s, then %s", doc, vars, first, again)
			}
		}
	}
}

// R1: documents, variables, tables and definitions that were right till something in them was changed.
func TestSpoilt(t *testing.T) {
	all := sound(t, zoo)
	for seed := range int64(600) {
		m := newMaker(seed, all, seed%3 > 0)
		c := m.make(t)
		s := spoiler{m.r, 2 + m.r.Intn(60)}
		types := all
		if seed%2 == 1 {
			defs := read(t, zoo)
			s.spoil(reflect.ValueOf(&defs).Elem())
			types = typesys.Build(defs)
		}
		if seed%4 > 0 {
			s.spoil(reflect.ValueOf(&c.doc).Elem())
			s.spoil(reflect.ValueOf(&c.vars).Elem())
		}
		if seed%5 > 0 {
			s.spoil(reflect.ValueOf(&c.entries).Elem())
		}
		checkSpoilt(t, types, c.doc, c.vars, c.entries)
	}
}

// R1, P26.1: a table is any rows whatever; over it a valid document is executed as the model does it.
func TestSpoiltTables(t *testing.T) {
	types := sound(t, zoo)
	for seed := range int64(500) {
		m := newMaker(30000+seed, types, seed%2 == 0)
		c := m.make(t)
		s := spoiler{m.r, 3 + m.r.Intn(60)}
		s.spoil(reflect.ValueOf(&c.entries).Elem())
		alike(t, c.src, exec.Run(types, c.doc, 0, c.vars, c.entries, 250), modelled(types, c.doc, 0, c.vars, c.entries, 250))
	}
}

// R1: type systems that are nil, empty, or of definitions that aren't sound.
func TestOddTypeSystems(t *testing.T) {
	systems := []*typesys.Types{nil, {}, typesys.Build(nil), typesys.Build([]api.SysDef{
		{Kind: api.SysObject, Name: "Query", Fields: []api.FieldDef{{Name: "a", Type: api.TypeRef{Name: "Query", Wrap: strings.Repeat("!", 1<<20)}}, {Name: "i", Type: api.TypeRef{Name: "I", Wrap: "x"}}, {Name: "b", Type: api.TypeRef{Name: "Int", Wrap: strings.Repeat("]", 1<<20)}}}},
		{Kind: api.SysInterface, Name: "I", Ifaces: []api.Named{{Name: "I"}, {Name: "J"}}},
		{Kind: api.SysUnion, Name: "U", Members: []api.Named{{Name: "U"}, {Name: "I"}, {Name: "Query"}, {Name: "Query"}, {Name: ""}}},
		{Kind: api.SysObject, Name: "O"}, {Kind: api.SysUnion, Name: "O", Members: []api.Named{{Name: "O"}}}, {Kind: api.SysObject, Name: ""},
		{Kind: -1, Name: "X"}, {Kind: math.MaxInt, Name: "V"},
	})}
	for _, defs := range []string{
		"schema {query: U mutation: Nope subscription: Query} union U = Query | I type Query {a: Nope}",
		"type Query implements Query & Nope {a: Int i: I} interface I implements I {a: Int} type Query {b: Int}",
		"schema {query: E} enum E {A} union U = U | V union V = U | E type O implements U {a: Int}",
		"input P {a: P! = {}} type Query {a(p: P = {a: {}} q: P): P i: [Nope!]! b(x: Query!): __Nope}",
		"schema {query: __Type} type A {a: Int}", "schema {query: __EnumValue mutation: __Type}", "schema {query: __Schema mutation: Query} type Query {a: __Schema i: [__Type!]! b: __TypeKind}",
		"type __Own {a: Int} type Query {a: __Own i: __Own}",
	} {
		systems = append(systems, typesys.Build(read(t, defs)))
	}
	rows := table(t, `/a Query a {} "@Query"`, `/i Query i {} ["@__Type:Query","@","@Query"]`, `/b Query b {} [[[1]]]`, `/a Query a {} "@__Schema"`, `/a Query a {"p":{"a":{}}} {}`, `    {}`)
	for _, doc := range []api.Document{
		parse(t, "{a {a} i {...F} b ...F __typename __type {name} __schema {x} nope {a} ... on U {a} ... on Nope {...G} ...G ...F} fragment F on I {a i {b}} fragment G on __Type {...G a} fragment H on O {a}"),
		parse(t, "{name fields {name} kind types {name} __schema {types {...F name}}} mutation {name types {...F}} fragment F on __Type {name ...F ofType {...F}}"),
		parse(t, "{a i b} mutation {a b} subscription {a i}"), {}, {Defs: []api.Def{{}}},
	} {
		for _, types := range systems {
			checkSpoilt(t, types, doc, nil, rows)
		}
	}
}

// A type system may have an introspection type as the root of its queries, though no sound one has: there no handle stands.
func TestIntrospectionAsRoot(t *testing.T) {
	types := typesys.Build(read(t, "schema {query: __EnumValue mutation: __Type}"))
	for _, r := range []struct{ doc, want string }{
		{"{name}", `null | resolver /name 1:2 |  | 1`},
		{"{deprecationReason __typename __type(name: \"Int\"){name}}", `{"deprecationReason":null,"__typename":"__EnumValue","__type":{"name":"Int"}} | resolver /deprecationReason 1:2 |  | 4`},
		{"mutation{name fields{name}}", `{"name":null,"fields":null} | resolver /name 1:10, resolver /fields 1:15 |  | 2`},
	} {
		rows := table(t, `/name __EnumValue name {} "x"`, `/name __Type name {} "x"`)
		if got := told(exec.Run(types, parse(t, r.doc), 0, nil, rows, 9)); got != r.want {
			t.Errorf("%s: %s", r.doc, got)
		}
	}
}

// R1: fragments on rings, over tables without an end in sight.
func TestRings(t *testing.T) {
	types := sound(t, zoo)
	doc := parse(t, "{...F} fragment F on Query {q {...F} b ...G} fragment G on I {i {...G ...F} a}")
	rows := table(t, `/q Query q {} "@Query"`, `/q/q Query q {} "@Query"`, `/q/q/i Query i {} "@Query"`, `/q/q/i/q Query q {} "@Query"`, `/i Query i {} "@O"`, `/i/i O i {} "@V"`)
	alike(t, "rings", exec.Run(types, doc, 0, nil, rows, 100), modelled(types, doc, 0, nil, rows, 100))
	checkSpoilt(t, types, doc, nil, rows)
	if got := exec.Run(types, doc, 0, nil, rows, 100); got.Over || got.Nodes < 20 {
		t.Error(told(got))
	}
}

// R1: kinds that are none, with all parts and with none.
func TestKindsThatAreNone(t *testing.T) {
	types := sound(t, zoo)
	for _, n := range oddNumbers() {
		v := api.Value{Kind: api.Kind(n), Type: "Query", Items: []api.Value{{Kind: api.Kind(n)}}, Fields: []api.Member{{Name: "\xff"}, {}}}
		var rows []api.Entry
		for _, field := range []string{"a", "q", "is", "ns", "s", "t", "ts", "e"} {
			rows = append(rows, api.Entry{Call: api.Call{Path: "/" + field, Parent: "Query", Field: field, Args: "{}"}, Out: api.Outcome{Value: v}})
		}
		rows[0].Call.Args = `{"x":1}`
		doc := valid(t, types, "{a q{a} is{a} ns s t{name} ts{name} e}")
		alike(t, "a kind", exec.Run(types, doc, 0, nil, rows, 100), modelled(types, doc, 0, nil, rows, 100))
		for _, kind := range oddNumbers() {
			sel := api.Sel{Kind: api.SelKind(n), Alias: "a", Name: "a", On: "Query", Args: []api.Arg{{Name: "x", Value: api.Lit{Kind: api.LitKind(n), Text: "v", Items: []api.Lit{{}}}}}, Sels: []api.Sel{{}}}
			def := api.Def{Kind: api.DefKind(kind), Sels: []api.Sel{sel, {Kind: api.SelField, Name: "q", Sels: []api.Sel{sel}}, {Kind: api.SelKind(kind)}}}
			checkSpoilt(t, types, api.Document{Defs: []api.Def{def, def}}, []api.Member{{Name: "v", Value: v}, {}}, rows)
		}
	}
}

// R1: an operation's number that is none.
func TestNoOperation(t *testing.T) {
	types := sound(t, zoo)
	doc := valid(t, types, "{a ...F} fragment F on Query {b}")
	for _, op := range []int{math.MinInt, -1, 1, 2, 3, math.MaxInt} {
		if r := exec.Run(types, doc, op, nil, nil, 10); len(r.Faults)+len(r.Trace)+r.Nodes > 2*2+2 {
			t.Error(op, told(r))
		}
	}
}
