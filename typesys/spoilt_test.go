package typesys_test

import (
	"math"
	"math/rand"
	"reflect"
	"strings"
	"testing"

	"pergola/api"
	"pergola/typesys"
)

// oddTexts are texts that are no names and no marks, and some that are.
func oddTexts() []string {
	return []string{"", "\xff", "a\xc3", "\x00", "\n", " ", "]", "!", "]!", "!!", "[", "A", "I", "Query", "Int", "skip", "__Type", "__typename", "__schema", strings.Repeat("]", 100), "é"}
}

func oddNumbers() []int {
	return []int{math.MinInt, math.MinInt32, -2, -1, 0, 1, 2, 3, 4, 5, 6, 7, 8, 9, 10, 255, 1 << 16, math.MaxInt32, math.MaxInt}
}

// spoiler changes parts of a value in its place, each with the chance of one in rate.
type spoiler struct {
	r    *rand.Rand
	rate int
	room int // how many lists may still be made
}

func (s *spoiler) spoil(v reflect.Value) {
	switch v.Kind() {
	case reflect.Struct:
		for i := range v.NumField() {
			s.spoil(v.Field(i))
		}
	case reflect.Slice:
		if s.hits() {
			v.Set(s.list(v.Type()))
		}
		for i := range v.Len() {
			s.spoil(v.Index(i))
		}
	case reflect.String:
		if texts := oddTexts(); s.hits() {
			v.SetString(texts[s.r.Intn(len(texts))])
		}
	case reflect.Bool:
		if s.hits() {
			v.SetBool(!v.Bool())
		}
	case reflect.Int:
		if numbers := oddNumbers(); s.hits() {
			v.SetInt(int64(numbers[s.r.Intn(len(numbers))]))
		}
	}
}

func (s *spoiler) hits() bool { return s.r.Intn(s.rate) == 0 }

// list is a list of zero elements, nil among them.
func (s *spoiler) list(t reflect.Type) reflect.Value {
	if s.room == 0 || s.r.Intn(3) == 0 {
		return reflect.Zero(t)
	}
	s.room--
	return reflect.MakeSlice(t, s.r.Intn(3), 3)
}

// checkSpoilt: every call ends and none panics, all answer the same again, and the definitions stay as they are.
func checkSpoilt(t *testing.T, defs []api.SysDef) {
	t.Helper()
	before := even(defs)
	defer func() {
		if err := recover(); err != nil {
			t.Fatalf("%#v: %v", before, err)
		}
	}()
	one, two := typesys.Build(defs), typesys.Build(defs)
	if !reflect.DeepEqual(even(defs), before) {
		t.Fatalf("Build has changed %#v", before)
	}
	hold(t, "spoilt", one, two, oddTexts())
	for _, n := range oddNumbers() {
		alike(t, "Root", one.Root(api.DefKind(n)), two.Root(api.DefKind(n)))
	}
}

// R1: definitions that were well made till something in them was changed.
func TestSpoilt(t *testing.T) {
	r := rand.New(rand.NewSource(5))
	for seed := range int64(500) {
		defs := read(t, makeSource(seed, 1+int(seed)%10))
		s := spoiler{r, 1 + r.Intn(30), 50}
		s.spoil(reflect.ValueOf(&defs).Elem())
		checkSpoilt(t, defs)
	}
}

// R1: kinds that are none, names that are empty, with all parts and with none, of definitions and extensions.
func TestKindsThatAreNone(t *testing.T) {
	lit := api.Lit{Kind: -1, Items: make([]api.Lit, 2), Fields: make([]api.LitField, 2)}
	dirs := []api.Dir{{}, {Name: "d", Args: []api.Arg{{}, {Name: "x", Value: lit}}}}
	inputs := []api.InputDef{{}, {HasDefault: true, Dirs: dirs}, {Default: lit}}
	all := api.SysDef{
		Ifaces: []api.Named{{}, {Name: "A"}, {Name: "I"}}, Dirs: dirs, Fields: []api.FieldDef{{}, {Name: "__schema", Args: inputs}}, Inputs: inputs,
		Members: []api.Named{{}, {Name: "A"}, {Name: ""}}, Values: make([]api.ValueDef, 2), Roots: []api.RootDef{{}, {Op: 1}, {Op: 9, Type: "A"}}, Repeatable: true, Places: make([]api.Named, 2),
	}
	for _, n := range oddNumbers() {
		for _, name := range []string{"", "A", "I", "Query", "Int", "skip"} {
			one, other := all, api.SysDef{Kind: api.SysKind(n), Name: name}
			one.Kind, one.Name = api.SysKind(n), name
			extension, bare := one, other
			extension.Extend, bare.Extend = true, true
			iface := api.SysDef{Kind: api.SysInterface, Name: "I"}
			checkSpoilt(t, []api.SysDef{one})
			checkSpoilt(t, []api.SysDef{other, extension, iface})
			checkSpoilt(t, []api.SysDef{bare, extension})
			checkSpoilt(t, []api.SysDef{{}, bare, one, iface, extension, other, {Kind: api.SysSchema}})
		}
	}
}

func nestLit(kind api.LitKind, levels int) api.Lit {
	lit := api.Lit{Kind: api.LitInt, Text: "1"}
	for range levels {
		if kind == api.LitList {
			lit = api.Lit{Kind: kind, Items: []api.Lit{lit}}
		} else {
			lit = api.Lit{Kind: kind, Fields: []api.LitField{{Name: "a", Value: lit}}}
		}
	}
	return lit
}

// R1: literals that are nested far deeper than any source's.
func TestNestedDeep(t *testing.T) {
	const levels = 1 << 16
	for _, kind := range []api.LitKind{api.LitList, api.LitObject} {
		input := api.InputDef{Name: "a", HasDefault: true, Default: nestLit(kind, levels)}
		s := typesys.Build([]api.SysDef{{Kind: api.SysObject, Name: "A", Fields: []api.FieldDef{{Name: "a", Args: []api.InputDef{input}}}}})
		field, ok := s.Field("A", "a")
		lit, deep := field.Args[0].Default, 0
		for ; len(lit.Items)+len(lit.Fields) > 0; deep++ {
			if kind == api.LitList {
				lit = lit.Items[0]
			} else {
				lit = lit.Fields[0].Value
			}
		}
		if !ok || deep != levels || lit.Text != "1" {
			t.Error("nested:", ok, deep, lit)
		}
	}
}
