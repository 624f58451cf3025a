package result_test

import (
	"math"
	"reflect"
	"strconv"
	"testing"

	"pergola/api"
	"pergola/jsonout"
	"pergola/result"
	"pergola/sdl"
	"pergola/shape"
	"pergola/typesys"
)

// chapter are the types of the chapter's examples.
const chapter = "enum E {A B} scalar S type Query {a: Int} interface N {a: Int} type T implements N {a: Int} union U = T"

// sound is the type system of a source, which must have no fault.
func sound(t testing.TB, src string) *typesys.Types {
	t.Helper()
	defs, fault := sdl.Parse([]byte(src), api.MostDepth)
	if fault.Kind != api.OK {
		t.Fatalf("%.500q is not read: %v", src, fault)
	}
	if faults := shape.Check(defs); len(faults) > 0 {
		t.Fatalf("%.2000q is not sound: %v", src, faults)
	}
	return typesys.Build(defs)
}

func truth(is bool) api.Value { return api.Value{Kind: api.KindBool, Bool: is} }

func whole(n int64) api.Value { return api.Value{Kind: api.KindInt, Int: n} }

func float(f float64) api.Value { return api.Value{Kind: api.KindFloat, Float: f} }

func text(s string) api.Value { return api.Value{Kind: api.KindString, Text: s} }

func list(items ...api.Value) api.Value { return api.Value{Kind: api.KindList, Items: items} }

func object(all ...api.Member) api.Value { return api.Value{Kind: api.KindObject, Fields: all} }

func member(name string, v api.Value) api.Member { return api.Member{Name: name, Value: v} }

func handle(typ string) api.Value {
	return api.Value{Kind: api.KindHandle, Type: typ, Text: "own"}
}

func oddFloats() []float64 {
	return []float64{math.NaN(), math.Inf(1), math.Inf(-1), math.Copysign(0, -1), 0, 7, 7.5, -2147483648, 2147483648, 9007199254740993, 1e21, 1e300, 5e-324, math.MaxFloat64}
}

// noisy is a copy of a value in which all that doesn't count is set, at every depth.
func noisy(v api.Value) api.Value {
	out := api.Value{Kind: v.Kind, Bool: true, Int: 77, Float: 7.5, Text: "noise", Type: "Query", Items: []api.Value{truth(true)}, Fields: []api.Member{member("noise", whole(1))}}
	switch v.Kind {
	case api.KindBool:
		out.Bool = v.Bool
	case api.KindInt:
		out.Int = v.Int
	case api.KindFloat:
		out.Float = v.Float
	case api.KindString:
		out.Text = v.Text
	case api.KindHandle:
		out.Type, out.Text = v.Type, v.Text
	case api.KindList:
		out.Items = nil
		for _, item := range v.Items {
			out.Items = append(out.Items, noisy(item))
		}
	case api.KindObject:
		out.Fields = nil
		for _, m := range v.Fields {
			out.Fields = append(out.Fields, member(m.Name, noisy(m.Value)))
		}
	}
	return out
}

// checkPlain: fields that don't count are zero, at every depth.
func checkPlain(t testing.TB, v api.Value) {
	t.Helper()
	rest := v
	rest.Kind = 0
	switch v.Kind {
	case api.KindNull:
	case api.KindBool:
		rest.Bool = false
	case api.KindInt:
		rest.Int = 0
	case api.KindFloat:
		rest.Float = 0
	case api.KindString:
		rest.Text = ""
	case api.KindList:
		rest.Items = nil
	case api.KindObject:
		rest.Fields = nil
	default:
		t.Errorf("a value of kind %d", v.Kind)
	}
	if len(rest.Items)+len(rest.Fields) > 0 || rest.Bool || rest.Int != 0 || rest.Float != 0 || rest.Text+rest.Type != "" {
		t.Errorf("what doesn't count isn't zero: %v", v)
	}
	for _, item := range v.Items {
		checkPlain(t, item)
	}
	for _, m := range v.Fields {
		checkPlain(t, m.Value)
	}
}

func errorText(errno api.Errno) string {
	switch errno {
	case api.ErrKind:
		return "ErrKind"
	case api.ErrResult:
		return "ErrResult"
	case api.ErrRuntime:
		return "ErrRuntime"
	}
	return "errno " + strconv.Itoa(int(errno))
}

// leafText is Leaf's answer as canonical JSON, in which floats and whole numbers are unlike, or the error's name.
func leafText(t testing.TB, types *typesys.Types, name string, v api.Value) string {
	t.Helper()
	made, errno := result.Leaf(types, name, v)
	if errno != api.OK {
		if !reflect.DeepEqual(made, api.Value{}) {
			t.Errorf("Leaf(%s, %v): %v beside an error", name, v, made)
		}
		return errorText(errno)
	}
	checkPlain(t, made)
	out, errno := jsonout.Write(made)
	if errno != api.OK {
		t.Fatalf("Leaf(%s, %v) is not written: %v", name, v, made)
	}
	return string(out)
}

// runtimeText is Runtime's answer, or the error's name.
func runtimeText(t testing.TB, types *typesys.Types, want string, v api.Value) string {
	t.Helper()
	name, errno := result.Runtime(types, want, v)
	if errno == api.OK {
		return name
	}
	if name != "" {
		t.Errorf("Runtime(%s, %v): %s beside an error", want, v, name)
	}
	return errorText(errno)
}
