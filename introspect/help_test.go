package introspect_test

import (
	"fmt"
	"reflect"
	"strconv"
	"strings"
	"testing"

	"pergola/api"
	"pergola/introspect"
	"pergola/sdl"
	"pergola/shape"
	"pergola/typesys"
)

// read are the definitions of a source; of no source none.
func read(t testing.TB, src string) []api.SysDef {
	t.Helper()
	if src == "" {
		return nil
	}
	defs, fault := sdl.Parse([]byte(src), api.MostDepth)
	if fault.Kind != api.OK {
		t.Fatalf("%.500q is not read: %v", src, fault)
	}
	return defs
}

// sound is the type system of a source, which must have no fault.
func sound(t testing.TB, src string) *typesys.Types {
	t.Helper()
	defs := read(t, src)
	if faults := shape.Check(defs); len(faults) > 0 {
		t.Fatalf("%.2000q is not sound: %v", src, faults)
	}
	return typesys.Build(defs)
}

// nothing is what told says of an answer that is false.
const nothing = "nothing"

// told is an answer as a text: a string in quotes, a handle by its type and its own name. A field that doesn't count shows.
func told(v api.Value, ok bool) string {
	if !ok {
		return nothing + rest(v, api.Value{})
	}
	counts := api.Value{Kind: v.Kind}
	out := "kind " + strconv.Itoa(int(v.Kind))
	switch v.Kind {
	case api.KindNull:
		out = "null"
	case api.KindBool:
		counts.Bool = v.Bool
		out = strconv.FormatBool(v.Bool)
	case api.KindString:
		counts.Text = v.Text
		out = "'" + v.Text + "'"
	case api.KindHandle:
		counts.Type, counts.Text = v.Type, v.Text
		out = v.Type + ":" + v.Text
	case api.KindList:
		counts.Items = v.Items
		out = toldList(v.Items)
	}
	return out + rest(v, counts)
}

func toldList(items []api.Value) string {
	all := make([]string, len(items))
	for i, item := range items {
		all[i] = told(item, true)
	}
	return "[" + strings.Join(all, " ") + "]"
}

// rest tells of fields that should be zero.
func rest(v, counts api.Value) string {
	if v.Kind != counts.Kind || v.Bool != counts.Bool || v.Int != 0 || v.Float != 0 || v.Text != counts.Text || v.Type != counts.Type || len(v.Items) != len(counts.Items) || len(v.Fields) != 0 {
		return " with more than its kind has"
	}
	return ""
}

func handle(typ, own string) api.Value {
	return api.Value{Kind: api.KindHandle, Type: typ, Text: own}
}

func text(s string) api.Value { return api.Value{Kind: api.KindString, Text: s} }

func truth(is bool) api.Value { return api.Value{Kind: api.KindBool, Bool: is} }

// arg is one argument; several are appended.
func arg(name string, v api.Value) []api.Member { return []api.Member{{Name: name, Value: v}} }

// deprecatedToo asks for deprecated fields and values too.
func deprecatedToo() []api.Member { return arg("includeDeprecated", truth(true)) }

// row is a question and its answer: a handle, told as Type:own, a field with + behind it if the deprecated are asked for too, and what is answered.
type row struct {
	handle, field, want string
}

func checkRows(t *testing.T, s *typesys.Types, promise string, rows []row) {
	t.Helper()
	for _, r := range rows {
		typ, own, _ := strings.Cut(r.handle, ":")
		field, isAll := strings.CutSuffix(r.field, "+")
		var args []api.Member
		if isAll {
			args = deprecatedToo()
		}
		if got := told(introspect.Field(s, handle(typ, own), field, args)); got != r.want {
			t.Errorf("%s: %s %s:\ngot  %s\nwant %s", promise, r.handle, r.field, got, r.want)
		}
	}
}

// of are rows of one handle: fields and answers, in turn.
func of(handle string, pairs ...string) []row {
	var out []row
	for i := 0; i+1 < len(pairs); i += 2 {
		out = append(out, row{handle, pairs[i], pairs[i+1]})
	}
	return out
}

// noTypes is the type system of no definitions.
var noTypes = typesys.Build(nil)

// fieldsOf are the names of the fields of an introspection type, as chapter 12 defines them.
func fieldsOf(t testing.TB, typ string) []string {
	t.Helper()
	def, ok := noTypes.Type(typ)
	if !ok || len(def.Fields) == 0 {
		t.Fatal("no introspection type with fields:", typ)
	}
	var names []string
	for _, f := range def.Fields {
		names = append(names, f.Name)
	}
	return names
}

// objectTypes are the introspection types that have objects.
func objectTypes() []string {
	return []string{"__Schema", "__Type", "__Field", "__InputValue", "__EnumValue", "__Directive"}
}

// alike holds two things against each other; a list of no elements may be nil or empty.
func alike(t testing.TB, what string, got, want any) {
	t.Helper()
	if !reflect.DeepEqual(remade(got, nil), remade(want, nil)) {
		t.Errorf("%s: got\n%.2000v\nwant\n%.2000v", what, fmt.Sprint(got), fmt.Sprint(want))
	}
}

// unplaced is a deep copy in which all places are zero, and lists of no elements nil.
func unplaced[T any](thing T) T { return remade(thing, &api.Pos{}).(T) }

// remade is a deep copy in which lists of no elements are nil, and all places one, if that is told.
func remade(thing any, pos *api.Pos) any {
	out := reflect.New(reflect.TypeOf(thing)).Elem()
	layCopy(out, reflect.ValueOf(thing), pos)
	return out.Interface()
}

func layCopy(to, from reflect.Value, pos *api.Pos) {
	switch {
	case pos != nil && from.Type() == reflect.TypeFor[api.Pos]():
		to.Set(reflect.ValueOf(*pos))
	case from.Kind() == reflect.Struct:
		for i := range from.NumField() {
			layCopy(to.Field(i), from.Field(i), pos)
		}
	case from.Kind() == reflect.Slice:
		if from.Len() == 0 {
			return
		}
		to.Set(reflect.MakeSlice(from.Type(), from.Len(), from.Len()))
		for i := range from.Len() {
			layCopy(to.Index(i), from.Index(i), pos)
		}
	default:
		to.Set(from)
	}
}
