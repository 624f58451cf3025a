package coerce_test

import (
	"fmt"
	"math"
	"math/rand"
	"reflect"
	"strings"
	"testing"

	"pergola/api"
	"pergola/coerce"
	"pergola/typesys"
)

// oddTexts are texts that are no names, no numbers and no marks, and some that are.
func oddTexts() []string {
	return []string{"", "\xff", "a\xc3", "\x00", " ", "]", "!", "]!", "!!", "!!]", "x", "]x!", "[", "-", "01", "1", "1.5", "1e400", "99999999999999999999", "A", "E", "S", "Query", "I0", "I1", "Int", "ID", "Float", "a", "b", "v0", "v1", "true", "__Type", strings.Repeat("]", 100), "é"}
}

func oddNumbers() []int {
	return []int{math.MinInt, -2, -1, 0, 1, 2, 3, 4, 5, 6, 7, 8, 9, 10, 255, 1 << 16, math.MaxInt}
}

func oddFloats() []float64 {
	return []float64{math.NaN(), math.Inf(1), math.Inf(-1), math.Copysign(0, -1), 1e300, 5e-324}
}

// spoiler changes parts of a thing in its place, each with the chance of one in rate.
type spoiler struct {
	r    *rand.Rand
	rate int
	room int // how many lists may still be made
}

func (s *spoiler) spoil(v reflect.Value) {
	switch v.Kind() {
	case reflect.Struct:
		for i := range v.NumField() {
			s.spoil(v.Field(i))
		}
	case reflect.Slice:
		if s.hits() {
			v.Set(s.list(v.Type()))
		}
		for i := range v.Len() {
			s.spoil(v.Index(i))
		}
	case reflect.String:
		if texts := oddTexts(); s.hits() {
			v.SetString(texts[s.r.Intn(len(texts))])
		}
	case reflect.Bool:
		if s.hits() {
			v.SetBool(!v.Bool())
		}
	case reflect.Int, reflect.Int64:
		if numbers := oddNumbers(); s.hits() {
			v.SetInt(int64(numbers[s.r.Intn(len(numbers))]))
		}
	case reflect.Float64:
		if floats := oddFloats(); s.hits() {
			v.SetFloat(floats[s.r.Intn(len(floats))])
		}
	}
}

func (s *spoiler) hits() bool { return s.r.Intn(s.rate) == 0 }

// list is a list of zero elements, nil among them.
func (s *spoiler) list(t reflect.Type) reflect.Value {
	if s.room == 0 || s.r.Intn(3) == 0 {
		return reflect.Zero(t)
	}
	s.room--
	return reflect.MakeSlice(t, s.r.Intn(3), 3)
}

// checkSpoilt: every call ends and none panics, all answer the same again, zero beside errors, and leave what they are handed.
func checkSpoilt(t *testing.T, types *typesys.Types, a asked) {
	t.Helper()
	before := fmt.Sprintf("%#v", a)
	defer func() {
		if err := recover(); err != nil {
			t.Fatalf("%s: %v", before, err)
		}
	}()
	one, two := ask(types, a), ask(types, a)
	// As texts, for a NaN isn't like itself.
	if got, want := fmt.Sprint(even(one)), fmt.Sprint(even(two)); got != want {
		t.Fatalf("%s: answered %s, and again %s", before, got, want)
	}
	if fmt.Sprintf("%#v", a) != before {
		t.Fatalf("%s was changed", before)
	}
	for _, want := range a.Wants {
		for _, v := range a.Values {
			if made, err := coerce.Input(types, v, want); err != nil && (!reflect.DeepEqual(made, api.Value{}) || err.Error() == "") {
				t.Errorf("%s: %v beside %v", before, made, err)
			}
		}
		for _, v := range a.Lits {
			if made, has, errno := coerce.Literal(types, v, want, a.Vars); !has && !reflect.DeepEqual(made, api.Value{}) || has && errno != api.OK {
				t.Errorf("%s: %v beside %v, %d", before, made, has, errno)
			}
		}
	}
	for i, faults := range one.Faults {
		if len(faults) > 0 && len(one.Members[i+2]) > 0 {
			t.Errorf("%s: members beside faults", before)
		}
	}
}

// R1: arguments and definitions that were right till something in them was changed.
func TestSpoilt(t *testing.T) {
	for seed := range int64(150) {
		m := &maker{r: rand.New(rand.NewSource(seed)), slip: 20}
		m.system()
		defs := read(t, m.src)
		s := spoiler{m.r, 2 + m.r.Intn(30), 50}
		if seed%2 == 1 {
			s.spoil(reflect.ValueOf(&defs).Elem())
		}
		types := typesys.Build(defs)
		for range 6 {
			m.plans = nil
			var a asked
			for range 2 {
				want := ref(t, m.typ())
				a.Wants = append(a.Wants, want)
				a.Values = append(a.Values, m.value(want, 4))
				a.Lits = append(a.Lits, lit(t, m.literal(t, want, 4, false)))
			}
			a.Vars = m.vars()
			a.Defs = fieldArgs(t, m.types, "q")
			for _, field := range lit(t, m.literalObject(t, api.SysDef{Inputs: a.Defs}, 4, false)).Fields {
				a.Args = append(a.Args, api.Arg{Name: field.Name, Value: field.Value})
			}
			a.Doc = parse(t, "query A ($a: Int = 3 $b: [I0!]! $c: I1 = {} $d: S = [1]) {s(x: [$a $b $c])} fragment F on T {a}")
			a.Given = m.value(ref(t, "Q!"), 4)
			s.spoil(reflect.ValueOf(&a).Elem())
			checkSpoilt(t, types, a)
		}
	}
}

// R1: type systems that are nil, empty, or of definitions that no source has.
func TestOddTypeSystems(t *testing.T) {
	systems := []*typesys.Types{nil, {}, typesys.Build(nil), typesys.Build([]api.SysDef{
		{Kind: api.SysInput, Name: "", Inputs: make([]api.InputDef, 3)},
		{Kind: api.SysInput, Name: "I", Inputs: []api.InputDef{{Name: "a", HasDefault: true}, {Name: "f", Type: api.TypeRef{Name: "I", Wrap: "!!"}}, {Name: "f", HasDefault: true, Type: api.TypeRef{Name: "Int", Wrap: "!"}}}, Values: []api.ValueDef{{Name: "b"}, {Name: "c"}}},
		{Kind: api.SysEnum, Name: "E", Values: make([]api.ValueDef, 2), Inputs: []api.InputDef{{Name: "f"}, {Name: "g"}}},
		{Kind: api.SysScalar, Name: "S", Inputs: []api.InputDef{{Name: "f", HasDefault: true}}, Values: make([]api.ValueDef, 2)},
		{Kind: api.SysInput, Name: "R", Inputs: []api.InputDef{{Name: "f", Type: api.TypeRef{Name: "Int"}, HasDefault: true, Default: api.Lit{Kind: api.LitVar, Text: "v"}}}},
		{Kind: api.SysInput, Name: "N", Inputs: []api.InputDef{{Name: "n", Type: api.TypeRef{Name: "N", Wrap: "!"}}}},
	})}
	base := rich(t)
	base.Wants = nil
	for _, name := range []string{"", "Int", "ID", "S", "E", "I", "R", "N", "Query", "\xff"} {
		for _, wrap := range []string{"", "!!", "]", "]x", "!!]!!", "!x]"} {
			base.Wants = append(base.Wants, api.TypeRef{Name: name, Wrap: wrap})
		}
	}
	base.Values = append(base.Values, smallValues()[:12]...)
	base.Values = append(base.Values, value(t, `{"f":{"f":null},"n":{"n":{}}}`))
	for _, n := range oddNumbers() {
		inner := api.Lit{Kind: api.LitKind(n), Text: "v"}
		outer := inner
		outer.Items = []api.Lit{inner, {}, {Kind: api.LitVar}}
		outer.Fields = []api.LitField{{Name: "f", Value: inner}, {Name: "f", Value: inner}, {Value: inner}}
		base.Lits = append(base.Lits, inner, outer, api.Lit{Kind: api.LitList, Items: []api.Lit{inner, outer}}, api.Lit{Kind: api.LitObject, Fields: []api.LitField{{Name: "f", Value: outer}, {}}})
		base.Args = append(base.Args, api.Arg{Name: "i", Value: outer}, api.Arg{Value: inner})
	}
	for _, types := range systems {
		checkSpoilt(t, types, base)
	}
}

// R1: of a nil type system the calls answer as of one without definitions.
func TestNilTypes(t *testing.T) {
	checkInputs(t, nil, []inputRow{{"1", "Float", "1.0"}, {"[1]", "[Int!]", "[1]"}, {`"LIST"`, "__TypeKind", `"LIST"`}, {"1", "S", " wants S"}, {`"x"`, "Int", " wants Int"}})
	checkLiterals(t, nil, []literalRow{{"[$v 1]", "[Int]", `{"v":2}`, "[2,1]"}, {"LIST", "__TypeKind", "", `"LIST"`}})
}
