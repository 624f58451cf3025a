package lits_test

import (
	"math"
	"math/rand"
	"reflect"
	"strings"
	"testing"

	"pergola/api"
	"pergola/lits"
	"pergola/typesys"
)

// oddTexts are texts that are no names, no numbers and no marks, and some that are.
func oddTexts() []string {
	return []string{"", "\xff", "a\xc3", "\x00", " ", "]", "!", "]!", "!!", "!!]", "x", "]x!", "[", "-", "01", "1", "1.5", "1e400", "99999999999999999999", "A", "E", "S", "T", "I0", "I1", "Int", "ID", "Float", "a", "true", "__Type", strings.Repeat("]", 100), "é"}
}

func oddNumbers() []int {
	return []int{math.MinInt, -2, -1, 0, 1, 2, 3, 4, 5, 6, 7, 8, 9, 10, 255, 1 << 16, math.MaxInt}
}

// spoiler changes parts of a value in its place, each with the chance of one in rate.
type spoiler struct {
	r    *rand.Rand
	rate int
	room int // how many lists may still be made
}

func (s *spoiler) spoil(v reflect.Value) {
	switch v.Kind() {
	case reflect.Struct:
		for i := range v.NumField() {
			s.spoil(v.Field(i))
		}
	case reflect.Slice:
		if s.hits() {
			v.Set(s.list(v.Type()))
		}
		for i := range v.Len() {
			s.spoil(v.Index(i))
		}
	case reflect.String:
		if texts := oddTexts(); s.hits() {
			v.SetString(texts[s.r.Intn(len(texts))])
		}
	case reflect.Bool:
		if s.hits() {
			v.SetBool(!v.Bool())
		}
	case reflect.Int:
		if numbers := oddNumbers(); s.hits() {
			v.SetInt(int64(numbers[s.r.Intn(len(numbers))]))
		}
	}
}

func (s *spoiler) hits() bool { return s.r.Intn(s.rate) == 0 }

// list is a list of zero elements, nil among them.
func (s *spoiler) list(t reflect.Type) reflect.Value {
	if s.room == 0 || s.r.Intn(3) == 0 {
		return reflect.Zero(t)
	}
	s.room--
	return reflect.MakeSlice(t, s.r.Intn(3), 3)
}

// answered is what all calls answer of a literal at a place, and of it and another.
type answered struct {
	Faults      []api.Fault
	Value       api.Value
	Has         bool
	Same, Other bool
	Vars        []api.Named
}

func answers(types *typesys.Types, v, other api.Lit, want api.TypeRef) answered {
	value, has := lits.Const(types, v, want)
	return answered{lits.Check(types, v, want), value, has, lits.Same(v, v), lits.Same(v, other), lits.Vars(v)}
}

// checkSpoilt: every call ends and none panics, all answer the same again, and the literals stay as they are.
func checkSpoilt(t *testing.T, types *typesys.Types, v, other api.Lit, want api.TypeRef) {
	t.Helper()
	before := even([]api.Lit{v, other})
	defer func() {
		if err := recover(); err != nil {
			t.Fatalf("%#v at %v: %v", before, want, err)
		}
	}()
	one, two := answers(types, v, other, want), answers(types, v, other, want)
	alike(t, "answered again", one, two)
	if !reflect.DeepEqual(even([]api.Lit{v, other}), before) {
		t.Fatalf("%#v was changed", before)
	}
	if !one.Has && !reflect.DeepEqual(one.Value, api.Value{}) || len(one.Faults) > 0 && one.Has || !one.Same {
		t.Errorf("%#v at %v: %v", before, want, one)
	}
}

// R1: literals, references and definitions that were well made till something in them was changed.
func TestSpoilt(t *testing.T) {
	for seed := range int64(300) {
		m := &maker{r: rand.New(rand.NewSource(seed))}
		defs := read(t, m.system())
		s := spoiler{m.r, 1 + m.r.Intn(30), 50}
		if seed%2 == 1 {
			s.spoil(reflect.ValueOf(&defs).Elem())
		}
		types := typesys.Build(defs)
		other := lit(t, m.any(5, false))
		for range 20 {
			typ := m.typ()
			v, want := lit(t, m.literal(typ, 5, false)), ref(t, typ)
			s.spoil(reflect.ValueOf(&v).Elem())
			s.spoil(reflect.ValueOf(&want).Elem())
			checkSpoilt(t, types, v, other, want)
			other = v
		}
	}
}

// R1: kinds that are none, with all parts and with none, at types of all kinds and at odd references.
func TestKindsThatAreNone(t *testing.T) {
	systems := []*typesys.Types{build(t, chapter), typesys.Build([]api.SysDef{
		{Kind: api.SysInput, Name: "", Inputs: make([]api.InputDef, 3)},
		{Kind: api.SysInput, Name: "I", Inputs: []api.InputDef{{Name: "a", HasDefault: true}, {Name: "f", Type: api.TypeRef{Name: "I", Wrap: "!!"}}}, Values: []api.ValueDef{{Name: "b"}, {Name: "c"}, {Name: "d"}}},
		{Kind: api.SysEnum, Name: "E", Values: make([]api.ValueDef, 2), Inputs: []api.InputDef{{Name: "f"}, {Name: "g"}}},
		{Kind: api.SysScalar, Name: "S", Inputs: []api.InputDef{{Name: "f", HasDefault: true}}, Values: make([]api.ValueDef, 2)},
		{Kind: api.SysInput, Name: "R", Inputs: []api.InputDef{{Name: "f", Type: api.TypeRef{Name: "Int"}, HasDefault: true, Default: api.Lit{Kind: api.LitVar, Text: "v"}}}},
	})}
	for _, n := range oddNumbers() {
		for _, text := range []string{"", "1", "b", "true", "\xff"} {
			inner := api.Lit{Kind: api.LitKind(n), Text: text}
			full := inner
			full.Items = []api.Lit{inner, {}, {Kind: api.LitVar}}
			full.Fields = []api.LitField{{Name: "f", Value: inner}, {Name: "b", Value: inner}, {Value: inner}}
			for _, v := range []api.Lit{inner, full, {Kind: api.LitList, Items: []api.Lit{inner, full}}, {Kind: api.LitObject, Fields: []api.LitField{{Name: "f", Value: full}, {}}}} {
				for _, name := range []string{"", "Int", "ID", "S", "E", "I", "R", "T", "\xff"} {
					for _, wrap := range []string{"", "!", "!!", "]", "x", "]x", "!!]!!", "[", "!x]"} {
						for _, types := range systems {
							checkSpoilt(t, types, v, full, api.TypeRef{Name: name, Wrap: wrap})
						}
					}
				}
				checkSpoilt(t, nil, v, full, api.TypeRef{Name: "Int", Wrap: "!!"})
				checkSpoilt(t, &typesys.Types{}, v, full, api.TypeRef{Name: "Float", Wrap: "x"})
			}
		}
	}
}

// R1: variables in the default of a definition that isn't well made give no value.
func TestVariableInDefault(t *testing.T) {
	types := typesys.Build([]api.SysDef{{Kind: api.SysInput, Name: "R", Inputs: []api.InputDef{{Name: "f", Type: api.TypeRef{Name: "Int"}, HasDefault: true, Default: api.Lit{Kind: api.LitVar, Text: "v"}}}}})
	checkRows(t, types, []row{{"{}", "R", "", ""}, {"{f: 1}", "R", "", `{"f":1}`}})
}

func nestLit(kind api.LitKind, levels int, name string) api.Lit {
	v := api.Lit{Kind: api.LitVar, Text: "v", Pos: api.Pos{Line: 1, Col: levels}}
	for range levels {
		if kind == api.LitList {
			v = api.Lit{Kind: kind, Items: []api.Lit{v}}
		} else {
			v = api.Lit{Kind: kind, Fields: []api.LitField{{Name: name, Value: v}}}
		}
	}
	return v
}

// R1: literals and references that are nested far deeper than any source's.
func TestNestedDeep(t *testing.T) {
	const levels = 1<<16 - 1
	types := build(t, chapter+" input D {d: D}")
	deep := api.TypeRef{Name: "Int", Wrap: strings.Repeat("!]", levels)}
	if got := told(lits.Check(types, api.Lit{Kind: api.LitInt, Text: "1"}, deep)); got != "" {
		t.Error(got)
	}
	if _, ok := lits.Const(types, api.Lit{Kind: api.LitInt, Text: "1"}, deep); ok {
		t.Error("a value of too many parts")
	}
	for _, name := range []string{"Int", "Nowhere"} {
		lits.Check(types, api.Lit{Kind: api.LitNull}, api.TypeRef{Name: name, Wrap: strings.Repeat("!", levels)})
	}
	for _, v := range []api.Lit{nestLit(api.LitList, levels, ""), nestLit(api.LitObject, levels, "d")} {
		for _, want := range []api.TypeRef{{}, {Name: "Int"}, {Name: "S"}, {Name: "S", Wrap: "!]!"}, {Name: "D"}, {Name: "T"}, {Name: "Int", Wrap: strings.Repeat("]", levels)}, deep} {
			lits.Check(types, v, want)
			if _, ok := lits.Const(types, v, want); ok {
				t.Error("a value at", want.Name)
			}
		}
		if vars := lits.Vars(v); len(vars) != 1 || vars[0] != (api.Named{Name: "v", Pos: api.Pos{Line: 1, Col: levels}}) {
			t.Error("Vars:", vars)
		}
		for _, other := range []api.Lit{nestLit(api.LitList, levels, ""), nestLit(api.LitObject, levels, "d"), nestLit(v.Kind, levels-1, "d")} {
			if same := lits.Same(v, other); same != (v.Kind == other.Kind && len(lits.Vars(other)) == 1 && lits.Vars(other)[0].Pos.Col == levels) {
				t.Error("Same:", same)
			}
		}
	}
}
