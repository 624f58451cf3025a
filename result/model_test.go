package result_test

import (
	"math/big"
	"slices"
	"testing"
	"unicode/utf8"

	"pergola/api"
	"pergola/introspect"
	"pergola/jsonout"
	"pergola/typesys"
)

// The second way: what a type is says layer 15, and what a value says its JSON text and exact arithmetic.

// asked is what the type system says of a type's field.
func asked(t testing.TB, types *typesys.Types, name, field string) api.Value {
	t.Helper()
	typ, ok := introspect.Root(types, "__type", []api.Member{member("name", text(name))})
	if !ok {
		t.Fatal("the type system doesn't answer")
	}
	if typ.Kind != api.KindHandle {
		return api.Value{}
	}
	v, ok := introspect.Field(types, typ, field, []api.Member{member("includeDeprecated", truth(true))})
	if !ok {
		t.Fatalf("%s of %q isn't answered", field, name)
	}
	return v
}

// askedNames are the names of the things that a type's field lists.
func askedNames(t testing.TB, types *typesys.Types, name, field string) []string {
	t.Helper()
	var names []string
	for _, thing := range asked(t, types, name, field).Items {
		v, ok := introspect.Field(types, thing, "name", nil)
		if !ok {
			t.Fatalf("%v has no name", thing)
		}
		names = append(names, v.Text)
	}
	return names
}

func isKnownKind(v api.Value) bool {
	return slices.Contains([]api.Kind{api.KindBool, api.KindInt, api.KindFloat, api.KindString, api.KindList, api.KindObject, api.KindHandle}, v.Kind)
}

// modelLeaf is what leafText should tell.
func modelLeaf(t testing.TB, types *typesys.Types, name string, v api.Value) string {
	t.Helper()
	kind := asked(t, types, name, "kind").Text
	switch {
	case kind != "SCALAR" && kind != "ENUM":
		return "ErrKind"
	case !isKnownKind(v):
		return "null"
	}
	out := modelScalar(name, v)
	if kind == "ENUM" {
		out = ""
		if v.Kind == api.KindString && slices.Contains(askedNames(t, types, name, "enumValues"), v.Text) {
			out = `"` + v.Text + `"`
		}
	}
	if out == "" {
		return "ErrResult"
	}
	return out
}

// modelScalar is what a scalar lets out, as JSON; empty where it is nothing.
func modelScalar(name string, v api.Value) string {
	number := exact(v)
	switch name {
	case "Int":
		if number != nil && number.IsInt() && number.Num().IsInt64() && number.Num().Int64() == int64(int32(number.Num().Int64())) {
			return number.Num().String()
		}
		return ""
	case "Float":
		if number == nil {
			return ""
		}
		if v.Kind == api.KindFloat {
			return json(v)
		}
		if f, isExact := number.Float64(); isExact {
			return json(float(f))
		}
		return ""
	case "Boolean":
		if v.Kind != api.KindBool {
			return ""
		}
	case "String":
		if v.Kind == api.KindBool || number != nil {
			return `"` + json(v) + `"`
		}
		return modelText(v)
	case "ID":
		if number != nil && number.IsInt() && number.Num().IsInt64() {
			return `"` + number.Num().String() + `"`
		}
		return modelText(v)
	}
	return json(v)
}

func modelText(v api.Value) string {
	if v.Kind != api.KindString || !utf8.ValidString(v.Text) {
		return ""
	}
	return json(v)
}

// exact is the number that a value is; nil if it is none.
func exact(v api.Value) *big.Rat {
	switch v.Kind {
	case api.KindInt:
		return new(big.Rat).SetInt64(v.Int)
	case api.KindFloat:
		return new(big.Rat).SetFloat64(v.Float)
	}
	return nil
}

// json is a value's JSON text; empty if it has none.
func json(v api.Value) string {
	out, errno := jsonout.Write(v)
	if errno != api.OK {
		return ""
	}
	return string(out)
}

// modelRuntime is what runtimeText should tell.
func modelRuntime(t testing.TB, types *typesys.Types, want string, v api.Value) string {
	t.Helper()
	var may []string
	switch asked(t, types, want, "kind").Text {
	case "OBJECT":
		may = []string{want}
	case "INTERFACE", "UNION":
		may = askedNames(t, types, want, "possibleTypes")
	default:
		return "ErrKind"
	}
	switch {
	case v.Kind != api.KindHandle:
		return "ErrResult"
	case !slices.Contains(may, v.Type):
		return "ErrRuntime"
	}
	return v.Type
}
