package shape_test

import (
	"fmt"
	"reflect"
	"strings"
	"testing"

	"pergola/api"
	"pergola/sdl"
	"pergola/shape"
	"pergola/typesys"
)

// read are the definitions of a source; of no source none.
func read(t testing.TB, src string) []api.SysDef {
	t.Helper()
	if src == "" {
		return nil
	}
	defs, fault := sdl.Parse([]byte(src), api.MostDepth)
	if fault.Kind != api.OK {
		t.Fatalf("%.500q is not read: %v", src, fault)
	}
	return defs
}

// kindNames are the kinds of faults by their names without Err.
var kindNames = map[api.Errno]string{
	api.ErrTypeTwice: "TypeTwice", api.ErrDirTwice: "DirTwice", api.ErrSchemaTwice: "SchemaTwice", api.ErrRootTwice: "RootTwice", api.ErrBuiltIn: "BuiltIn", api.ErrExtendNone: "ExtendNone", api.ErrExtendKind: "ExtendKind",
	api.ErrNoQuery: "NoQuery", api.ErrRootKind: "RootKind", api.ErrRootSame: "RootSame",
	api.ErrName:  "Name",
	api.ErrEmpty: "Empty", api.ErrPartTwice: "PartTwice", api.ErrInputTwice: "InputTwice",
	api.ErrTypeNone: "TypeNone", api.ErrOutput: "Output", api.ErrInput: "Input",
	api.ErrIface: "Iface", api.ErrIfaceTwice: "IfaceTwice", api.ErrIfaceSelf: "IfaceSelf", api.ErrIfaceMore: "IfaceMore", api.ErrImplField: "ImplField", api.ErrImplType: "ImplType", api.ErrImplArg: "ImplArg", api.ErrImplArgType: "ImplArgType", api.ErrImplExtra: "ImplExtra",
	api.ErrMember: "Member", api.ErrMemberTwice: "MemberTwice",
	api.ErrInputRing: "InputRing", api.ErrDirRing: "DirRing",
	api.ErrArgNone: "ArgNone", api.ErrArgSame: "ArgSame", api.ErrArgMissing: "ArgMissing", api.ErrValue: "Value", api.ErrInFieldNone: "InFieldNone", api.ErrInFieldSame: "InFieldSame", api.ErrInFieldMissing: "InFieldMissing", api.ErrDirNone: "DirNone", api.ErrDirPlace: "DirPlace", api.ErrDirSame: "DirSame",
}

// told are faults as a text: kinds with their places.
func told(faults []api.Fault) string {
	var all []string
	for _, f := range faults {
		text := kindNames[f.Kind]
		if text == "" {
			text = fmt.Sprint("kind ", int(f.Kind))
		}
		for _, pos := range f.Pos {
			text += fmt.Sprintf(" %d:%d", pos.Line, pos.Col)
		}
		if len(f.Path) > 0 {
			text += fmt.Sprint(" path ", f.Path)
		}
		all = append(all, text)
	}
	return strings.Join(all, "; ")
}

// calls are all calls over a type system, by their names.
var calls = []struct {
	name string
	call func(*typesys.Types) []api.Fault
}{
	{"Roots", shape.Roots}, {"Names", shape.Names}, {"Parts", shape.Parts}, {"Refs", shape.Refs}, {"Ifaces", shape.Ifaces}, {"Members", shape.Members}, {"Rings", shape.Rings}, {"Uses", shape.Uses},
}

// answers is what each call answers of the definitions: Assembly, those of calls, Check.
func answers(defs []api.SysDef) [][]api.Fault {
	types := typesys.Build(defs)
	out := [][]api.Fault{shape.Assembly(defs)}
	for _, c := range calls {
		out = append(out, c.call(types))
	}
	return append(out, shape.Check(defs))
}

func callName(i int) string {
	switch {
	case i == 0:
		return "Assembly"
	case i <= len(calls):
		return calls[i-1].name
	}
	return "Check"
}

// row is a source in which marks, ① to ⑳, stand ahead of the places of the faults that one call answers of it.
type row struct {
	src, want string
}

// unmarked is a source without its marks, and a text of faults with the places in the marks' stead.
func unmarked(marked, faults string) (src, want string) {
	var out strings.Builder
	pos := api.Pos{Line: 1, Col: 1}
	for _, r := range marked {
		switch {
		case r >= '①' && r <= '⑳':
			faults = strings.ReplaceAll(faults, string(r), fmt.Sprintf(" %d:%d", pos.Line, pos.Col))
			continue
		case r == '\n':
			pos.Line, pos.Col = pos.Line+1, 0
		}
		pos.Col++
		out.WriteRune(r)
	}
	return out.String(), faults
}

// checkRows holds a call against rows; beside it Check must be the union of all calls, and all must answer what the model does.
func checkRows(t *testing.T, name string, rows []row) {
	t.Helper()
	for _, r := range rows {
		src, want := unmarked(r.src, r.want)
		all := holdAll(t, src)
		for i, faults := range all {
			if callName(i) == name && told(faults) != want {
				t.Errorf("%s of %.300q:\ngot  %s\nwant %s", name, r.src, told(faults), want)
			}
		}
	}
}

// holdAll holds what all calls answer of a source against the model, and answers it.
func holdAll(t testing.TB, src string) [][]api.Fault {
	t.Helper()
	defs := read(t, src)
	all := answers(defs)
	for i, want := range modelAnswers(defs) {
		if told(all[i]) != told(want) {
			t.Errorf("%s of %.2000q by the model:\ngot  %s\nwant %s", callName(i), src, told(all[i]), told(want))
		}
	}
	holdUnion(t, src, all)
	return all
}

// holdUnion: Check answers the union of all others.
func holdUnion(t testing.TB, src string, all [][]api.Fault) {
	t.Helper()
	union := modelFaults(all[:len(all)-1])
	if got := all[len(all)-1]; told(got) != told(union) {
		t.Errorf("Check of %.500q:\ngot  %s\nwant %s", src, told(got), told(union))
	}
}

// alike holds two things against each other; a list of no elements may be nil or empty.
func alike(t testing.TB, what string, got, want any) {
	t.Helper()
	if !reflect.DeepEqual(even(got), even(want)) {
		t.Errorf("%s: got\n%.2000v\nwant\n%.2000v", what, fmt.Sprint(got), fmt.Sprint(want))
	}
}

// even is a deep copy in which lists of no elements are nil.
func even(thing any) any {
	out := reflect.New(reflect.TypeOf(thing)).Elem()
	layCopy(out, reflect.ValueOf(thing))
	return out.Interface()
}

func layCopy(to, from reflect.Value) {
	switch from.Kind() {
	case reflect.Struct:
		for i := range from.NumField() {
			layCopy(to.Field(i), from.Field(i))
		}
	case reflect.Slice:
		if from.Len() == 0 {
			return
		}
		to.Set(reflect.MakeSlice(from.Type(), from.Len(), from.Len()))
		for i := range from.Len() {
			layCopy(to.Index(i), from.Index(i))
		}
	default:
		to.Set(from)
	}
}
