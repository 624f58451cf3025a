package shape_test

import (
	"math"
	"math/rand"
	"reflect"
	"strings"
	"testing"

	"pergola/api"
	"pergola/shape"
	"pergola/typesys"
)

// oddTexts are texts that are no names, no numbers and no marks, and some that are.
func oddTexts() []string {
	return []string{"", "\xff", "a\xc3", "\x00", " ", "]", "!", "]!", "!!", "!!]", "x", "]x!", "[", "__", "_", "1", "1e400", "(all literals)", "0", "A", "E", "I", "N", "Query", "Int", "d", "skip", "OBJECT", "__Type", strings.Repeat("]", 100), "é"}
}

func oddNumbers() []int {
	return []int{math.MinInt, math.MinInt32, -2, -1, 0, 1, 2, 3, 4, 5, 6, 7, 8, 9, 10, 255, 1 << 16, math.MaxInt32, math.MaxInt}
}

// spoiler changes parts of a value in its place, each with the chance of one in rate.
type spoiler struct {
	r    *rand.Rand
	rate int
	room int // how many lists may still be made
}

func (s *spoiler) spoil(v reflect.Value) {
	switch v.Kind() {
	case reflect.Struct:
		for i := range v.NumField() {
			s.spoil(v.Field(i))
		}
	case reflect.Slice:
		if s.hits() {
			v.Set(s.list(v.Type()))
		}
		for i := range v.Len() {
			s.spoil(v.Index(i))
		}
	case reflect.String:
		if texts := oddTexts(); s.hits() {
			v.SetString(texts[s.r.Intn(len(texts))])
		}
	case reflect.Bool:
		if s.hits() {
			v.SetBool(!v.Bool())
		}
	case reflect.Int:
		if numbers := oddNumbers(); s.hits() {
			v.SetInt(int64(numbers[s.r.Intn(len(numbers))]))
		}
	}
}

func (s *spoiler) hits() bool { return s.r.Intn(s.rate) == 0 }

// list is a list of zero elements, nil among them.
func (s *spoiler) list(t reflect.Type) reflect.Value {
	if s.room == 0 || s.r.Intn(3) == 0 {
		return reflect.Zero(t)
	}
	s.room--
	return reflect.MakeSlice(t, s.r.Intn(3), 3)
}

// checkSpoilt: every call ends and none panics, all answer the same again, Check their union, and the definitions stay as they are.
func checkSpoilt(t *testing.T, defs []api.SysDef) {
	t.Helper()
	before := even(defs)
	defer func() {
		if err := recover(); err != nil {
			t.Fatalf("%#v: %v", before, err)
		}
	}()
	one, two := answers(defs), answers(defs)
	if !reflect.DeepEqual(even(defs), before) {
		t.Fatalf("%#v was changed", before)
	}
	alike(t, "answered again", one, two)
	holdUnion(t, "spoilt definitions", one)
}

// R1: definitions that were well made till something in them was changed.
func TestSpoilt(t *testing.T) {
	r := rand.New(rand.NewSource(5))
	for seed := range int64(500) {
		src := makeSource(seed, 1+int(seed)%12)
		switch seed % 10 {
		case 0:
			src = soundSource
		case 1:
			src = rich
		}
		defs := read(t, src)
		s := spoiler{r, 1 + r.Intn(40), 50}
		s.spoil(reflect.ValueOf(&defs).Elem())
		checkSpoilt(t, defs)
	}
}

// R1: kinds that are none, names that are empty, with all parts and with none, of definitions and extensions.
func TestKindsThatAreNone(t *testing.T) {
	lit := api.Lit{Kind: -1, Items: make([]api.Lit, 2), Fields: make([]api.LitField, 2)}
	dirs := []api.Dir{{}, {Name: "d", Args: []api.Arg{{}, {Name: "x", Value: lit}}}, {Name: "d"}}
	inputs := []api.InputDef{{}, {HasDefault: true, Dirs: dirs}, {Default: lit, Type: api.TypeRef{Name: "A", Wrap: "!"}}, {HasDefault: true, Default: lit, Type: api.TypeRef{Wrap: "!!x"}}}
	all := api.SysDef{
		Ifaces: []api.Named{{}, {Name: "A"}, {Name: "I"}}, Dirs: dirs, Fields: []api.FieldDef{{}, {Name: "__schema", Args: inputs}}, Inputs: inputs,
		Members: []api.Named{{}, {Name: "A"}, {Name: ""}}, Values: make([]api.ValueDef, 2), Roots: []api.RootDef{{}, {Op: 1}, {Op: 9, Type: "A"}}, Repeatable: true, Places: make([]api.Named, 2),
	}
	for _, n := range oddNumbers() {
		for _, name := range []string{"", "A", "I", "d", "Query", "Int", "skip", "(all literals)"} {
			one, other := all, api.SysDef{Kind: api.SysKind(n), Name: name}
			one.Kind, one.Name = api.SysKind(n), name
			extension, bare := one, other
			extension.Extend, bare.Extend = true, true
			iface := api.SysDef{Kind: api.SysInterface, Name: "I", Ifaces: all.Ifaces, Fields: all.Fields}
			directive := api.SysDef{Kind: api.SysDirective, Name: "d", Inputs: inputs}
			checkSpoilt(t, []api.SysDef{one})
			checkSpoilt(t, []api.SysDef{other, extension, iface})
			checkSpoilt(t, []api.SysDef{bare, extension, directive})
			checkSpoilt(t, []api.SysDef{{}, bare, one, iface, extension, directive, other, {Kind: api.SysSchema}})
		}
	}
}

func nestLit(kind api.LitKind, levels int) api.Lit {
	lit := api.Lit{Kind: api.LitInt, Text: "1"}
	for range levels {
		if kind == api.LitList {
			lit = api.Lit{Kind: kind, Items: []api.Lit{lit}}
		} else {
			lit = api.Lit{Kind: kind, Fields: []api.LitField{{Name: "a", Value: lit}}}
		}
	}
	return lit
}

// R1: literals and references that are nested far deeper than any source's.
func TestNestedDeep(t *testing.T) {
	const levels = 1<<16 - 10
	for _, kind := range []api.LitKind{api.LitList, api.LitObject} {
		for _, typ := range []api.TypeRef{{Name: "N"}, {Name: "Int", Wrap: strings.Repeat("!]", levels)}, {}} {
			input := api.InputDef{Name: "a", Type: typ, HasDefault: true, Default: nestLit(kind, levels)}
			dirs := []api.Dir{{Name: "d", Args: []api.Arg{{Name: "x", Value: nestLit(kind, levels)}}}}
			defs := []api.SysDef{
				{Kind: api.SysObject, Name: "Query", Ifaces: []api.Named{{Name: "I"}}, Fields: []api.FieldDef{{Name: "a", Type: typ, Dirs: dirs}}}, {Kind: api.SysInterface, Name: "I", Fields: []api.FieldDef{{Name: "a", Type: typ}}},
				{Kind: api.SysInput, Name: "N", Inputs: []api.InputDef{{Name: "a", Type: api.TypeRef{Name: "N"}}}}, {Kind: api.SysDirective, Name: "d", Inputs: []api.InputDef{input}},
			}
			if faults := shape.Check(defs); len(faults) == 0 {
				t.Error("no fault")
			}
		}
	}
}

// R1: a ring that is far longer than any call may be nested.
func TestLongestRing(t *testing.T) {
	const n = 100000
	defs := make([]api.SysDef, n)
	for i := range defs {
		next := string(rune(0x4e00+(i+1)%n/400)) + string(rune(0x4e00+(i+1)%n%400))
		name := string(rune(0x4e00+i/400)) + string(rune(0x4e00+i%400))
		defs[i] = api.SysDef{Kind: api.SysInput, Name: name, Pos: api.Pos{Line: i + 1, Col: 7}, Inputs: []api.InputDef{{Name: "a", Type: api.TypeRef{Name: next, Wrap: "!"}}}}
	}
	if faults := shape.Rings(typesys.Build(defs)); len(faults) != n || faults[n-1].Pos[0].Line != n {
		t.Error("faults:", len(faults))
	}
}
