package result_test

import (
	"fmt"
	"math"
	"math/rand"
	"reflect"
	"testing"

	"pergola/api"
	"pergola/result"
	"pergola/sdl"
	"pergola/typesys"
)

// oddTexts are texts that are no names, and some that are.
func oddTexts() []string {
	return []string{"", "\xff", " ", "Query", "Int", "ID", "S0", "E0", "I0", "O0", "U0", "P0", "v0", "__Type", "__typename", "Int!", "[Int]"}
}

// spoiler changes parts of a thing in its place, each with the chance of one in rate.
type spoiler struct {
	r    *rand.Rand
	rate int
}

func (s spoiler) hits() bool { return s.r.Intn(s.rate) == 0 }

func (s spoiler) spoil(v reflect.Value) {
	switch v.Kind() {
	case reflect.Struct:
		for i := range v.NumField() {
			s.spoil(v.Field(i))
		}
	case reflect.Slice:
		if s.hits() && v.Len() > 0 {
			v.Set(reflect.AppendSlice(v.Slice3(0, v.Len(), v.Len()), v.Slice(0, s.r.Intn(v.Len()+1))))
		} else if s.hits() {
			v.Set(reflect.Zero(v.Type()))
		}
		for i := range v.Len() {
			s.spoil(v.Index(i))
		}
	case reflect.String:
		if texts := oddTexts(); s.hits() {
			v.SetString(texts[s.r.Intn(len(texts))])
		}
	case reflect.Bool:
		v.SetBool(v.Bool() != s.hits())
	case reflect.Int:
		if s.hits() {
			v.SetInt(int64(s.r.Intn(12) - 2))
		}
	}
}

// checkSpoilt: both calls end and don't panic, answer the same again, and zero beside an error.
func checkSpoilt(t *testing.T, what string, types *typesys.Types, names []string, v api.Value) {
	t.Helper()
	defer func() {
		if err := recover(); err != nil {
			t.Fatalf("%s, %v: %v", what, v, err)
		}
	}()
	for _, name := range names {
		made, errno := result.Leaf(types, name, v)
		again, errnoAgain := result.Leaf(types, name, v)
		object, fault := result.Runtime(types, name, v)
		objectAgain, faultAgain := result.Runtime(types, name, v)
		if fmt.Sprint(made, errno, object, fault) != fmt.Sprint(again, errnoAgain, objectAgain, faultAgain) {
			t.Errorf("%s, %s of %v: another answer", what, name, v)
		}
		if errno != api.OK && !reflect.DeepEqual(made, api.Value{}) || fault != api.OK && object != "" {
			t.Errorf("%s, %s of %v: %v and %q beside errors", what, name, v, made, object)
		}
	}
}

// R1: type systems of definitions that were right till something in them was changed.
func TestSpoiltTypeSystems(t *testing.T) {
	for seed := range int64(300) {
		m := &maker{r: rand.New(rand.NewSource(seed))}
		defs, fault := sdl.Parse([]byte(m.system()), api.MostDepth)
		if fault.Kind != api.OK {
			t.Fatal(fault)
		}
		spoiler{m.r, 2 + m.r.Intn(30)}.spoil(reflect.ValueOf(&defs).Elem())
		types := typesys.Build(defs)
		names := append(types.Names(), oddTexts()...)
		for range 5 {
			checkSpoilt(t, fmt.Sprint("seed ", seed), types, names, m.value(3, names))
			checkSpoilt(t, fmt.Sprint("seed ", seed), types, names, handle(names[m.r.Intn(len(names))]))
		}
	}
}

// R1: type systems that are nil, empty, or of definitions that no source has.
func TestOddTypeSystems(t *testing.T) {
	systems := []*typesys.Types{nil, {}, typesys.Build(nil), typesys.Build([]api.SysDef{
		{Kind: api.SysEnum, Name: "", Values: make([]api.ValueDef, 2)},
		{Kind: api.SysEnum, Name: "Int"},
		{Kind: api.SysScalar, Name: "S", Values: []api.ValueDef{{Name: "A"}}, Fields: make([]api.FieldDef, 2)},
		{Kind: api.SysObject, Name: "I", Ifaces: []api.Named{{Name: "I"}, {Name: "N"}, {Name: ""}}, Members: []api.Named{{Name: "I"}}},
		{Kind: api.SysInterface, Name: "N", Ifaces: []api.Named{{Name: "N"}, {Name: "N"}}},
		{Kind: api.SysUnion, Name: "U", Members: []api.Named{{Name: "U"}, {Name: "N"}, {Name: "I"}, {Name: "I"}, {Name: ""}}},
		{Kind: -1, Name: "X"}, {Kind: math.MaxInt, Name: "X"}, {Kind: api.SysDirective, Name: "D"},
	})}
	names := append(oddTexts(), "S", "I", "N", "U", "X", "D")
	for i, types := range systems {
		// Few values, for nil and the zero type system are made anew at each question.
		for _, v := range smallValues()[:40] {
			checkSpoilt(t, fmt.Sprint("system ", i), types, names, v)
		}
		for _, name := range names {
			checkSpoilt(t, fmt.Sprint("system ", i), types, names, handle(name))
		}
	}
}

// R1: of a nil type system the calls answer as of one without definitions.
func TestNilTypes(t *testing.T) {
	checkLeaf(t, nil, "Int", []leafRow{{float(7), "7"}, {text("7"), "ErrResult"}})
	checkLeaf(t, nil, "__TypeKind", []leafRow{{text("LIST"), `"LIST"`}})
	checkLeaf(t, nil, "S", []leafRow{{whole(7), "ErrKind"}})
	checkRuntime(t, nil, []runtimeRow{{"__Type", handle("__Type"), "__Type"}, {"__Type", handle("Query"), "ErrRuntime"}, {"Query", handle("Query"), "ErrKind"}})
}
