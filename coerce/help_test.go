package coerce_test

import (
	"errors"
	"fmt"
	"reflect"
	"strings"
	"testing"

	"pergola/api"
	"pergola/coerce"
	"pergola/jsonin"
	"pergola/jsonout"
	"pergola/parts"
	"pergola/printer"
	"pergola/query"
	"pergola/sdl"
	"pergola/shape"
	"pergola/tree"
	"pergola/typesys"
)

// chapter are the types of the chapter's examples, with a query root, and a type whose default has no end.
const chapter = `enum E {A B} scalar S input I {a: Int! b: I c: [E!] = [A] d: Float = 4} input R {r: R = {}}
	type Query {q(x: Int = 3 y: Int! z: Int i: I r: R): Int}`

// read are the definitions of a source; of no source none.
func read(t testing.TB, src string) []api.SysDef {
	t.Helper()
	if src == "" {
		return nil
	}
	defs, fault := sdl.Parse([]byte(src), api.MostDepth)
	if fault.Kind != api.OK {
		t.Fatalf("%.500q is not read: %v", src, fault)
	}
	return defs
}

// sound is the type system of a source, which must have no fault.
func sound(t testing.TB, src string) *typesys.Types {
	t.Helper()
	defs := read(t, src)
	if faults := shape.Check(defs); len(faults) > 0 {
		t.Fatalf("%.2000q is not sound: %v", src, faults)
	}
	return typesys.Build(defs)
}

func parse(t testing.TB, src string) api.Document {
	t.Helper()
	doc, fault := query.Parse([]byte(src), api.MostDepth)
	if fault.Kind != api.OK {
		t.Fatalf("%.2000q is not read: %v", src, fault)
	}
	return doc
}

func lit(t testing.TB, src string) api.Lit {
	t.Helper()
	v, fault := parts.ReadLit([]byte(src), false, api.MostDepth)
	if fault.Kind != api.OK {
		t.Fatalf("%.500q is not read: %v", src, fault)
	}
	return v
}

// ref is the reference that a text says; of no text the zero one.
func ref(t testing.TB, src string) api.TypeRef {
	t.Helper()
	if src == "" {
		return api.TypeRef{}
	}
	r, fault := parts.ReadType([]byte(src), api.MostDepth)
	if fault.Kind != api.OK {
		t.Fatalf("%.500q is not read: %v", src, fault)
	}
	return r
}

// value is the value of a JSON text.
func value(t testing.TB, src string) api.Value {
	t.Helper()
	v, _, errno := jsonin.Read([]byte(src), api.MostDepth)
	if errno != api.OK {
		t.Fatalf("%.500q is not read: %v", src, errno)
	}
	return v
}

// members are those of an object's JSON text; of no text none.
func members(t testing.TB, src string) []api.Member {
	t.Helper()
	if src == "" {
		return nil
	}
	return value(t, src).Fields
}

func object(all []api.Member) api.Value {
	return api.Value{Kind: api.KindObject, Fields: all}
}

func whole(n int64) api.Value { return api.Value{Kind: api.KindInt, Int: n} }

func text(s string) api.Value { return api.Value{Kind: api.KindString, Text: s} }

func list(items ...api.Value) api.Value { return api.Value{Kind: api.KindList, Items: items} }

// written is a value as canonical JSON.
func written(t testing.TB, v api.Value) string {
	t.Helper()
	checkPlain(t, v)
	out, errno := jsonout.Write(v)
	if errno != api.OK {
		t.Fatalf("%v is not written: %v", v, errno)
	}
	return string(out)
}

// checkPlain: fields that don't count are zero, at every depth.
func checkPlain(t testing.TB, v api.Value) {
	t.Helper()
	rest := v
	switch v.Kind {
	case api.KindNull:
	case api.KindBool:
		rest.Bool = false
	case api.KindInt:
		rest.Int = 0
	case api.KindFloat:
		rest.Float = 0
	case api.KindString:
		rest.Text = ""
	case api.KindList:
		rest.Items = nil
	case api.KindObject:
		rest.Fields = nil
	default:
		t.Errorf("a value of kind %d", v.Kind)
	}
	rest.Kind = 0
	if !reflect.DeepEqual(even(rest), api.Value{}) {
		t.Errorf("what doesn't count isn't zero: %v", v)
	}
	for _, item := range v.Items {
		checkPlain(t, item)
	}
	for _, member := range v.Fields {
		checkPlain(t, member.Value)
	}
}

// misfitText is an error of Input: the path, and what is wanted there.
func misfitText(t testing.TB, err error) string {
	t.Helper()
	var misfit *coerce.Misfit
	if !errors.Is(err, coerce.ErrMisfit) || !errors.As(err, &misfit) || misfit == nil || err.Error() == "" {
		t.Fatalf("no misfit: %v", err)
	}
	if err != error(misfit) {
		t.Errorf("the error isn't the misfit itself: %v", err)
	}
	for _, step := range misfit.Path {
		if step.Item && step.Name != "" || !step.Item && step.Index != 0 {
			t.Errorf("a step with too much: %v", step)
		}
	}
	return tree.PathText(misfit.Path) + " wants " + printer.Type(misfit.Want)
}

// inputText is Input's value as JSON, or its misfit.
func inputText(t testing.TB, types *typesys.Types, v api.Value, want api.TypeRef) string {
	t.Helper()
	made, err := coerce.Input(types, v, want)
	if err == nil {
		return written(t, made)
	}
	if !reflect.DeepEqual(made, api.Value{}) {
		t.Errorf("a value beside an error: %v", made)
	}
	return misfitText(t, err)
}

const (
	isNone = "none"
	fails  = "fails"
)

// literalText is Literal's value as JSON, or one of the words above.
func literalText(t testing.TB, types *typesys.Types, v api.Lit, want api.TypeRef, vars []api.Member) string {
	t.Helper()
	made, has, errno := coerce.Literal(types, v, want, vars)
	if has && errno == api.OK {
		return written(t, made)
	}
	if has || !reflect.DeepEqual(made, api.Value{}) {
		t.Errorf("a value beside false or an error: %v, %v, %v", made, has, errno)
	}
	switch errno {
	case api.OK:
		return isNone
	case api.ErrArgument:
		return fails
	}
	return fmt.Sprint("kind ", int(errno))
}

// argumentsText is Arguments' members as a JSON object, or the word for failing.
func argumentsText(t testing.TB, types *typesys.Types, defs []api.InputDef, args []api.Arg, vars []api.Member) string {
	t.Helper()
	made, errno := coerce.Arguments(types, defs, args, vars)
	switch {
	case errno == api.OK:
		return written(t, object(made))
	case len(made) > 0:
		t.Errorf("members beside an error: %v", made)
	case errno == api.ErrArgument:
		return fails
	}
	return fmt.Sprint("kind ", int(errno))
}

// variablesText is Variables' members as a JSON object, or its faults: places and paths.
func variablesText(t testing.TB, types *typesys.Types, doc api.Document, op int, given api.Value) string {
	t.Helper()
	made, faults := coerce.Variables(types, doc, op, given)
	if len(faults) == 0 {
		return written(t, object(made))
	}
	if len(made) > 0 {
		t.Errorf("members beside faults: %v", made)
	}
	var all []string
	for _, f := range faults {
		if f.Kind != api.ErrVariable || len(f.Pos) != 1 {
			t.Errorf("a fault of another kind: %v", f)
		}
		all = append(all, strings.TrimSpace(fmt.Sprintf("%d:%d %s", f.Pos[0].Line, f.Pos[0].Col, tree.PathText(f.Path))))
	}
	return strings.Join(all, "; ")
}

// even is a deep copy in which lists of no elements are nil.
func even(thing any) any {
	out := reflect.New(reflect.TypeOf(thing)).Elem()
	layCopy(out, reflect.ValueOf(thing))
	return out.Interface()
}

func layCopy(to, from reflect.Value) {
	switch from.Kind() {
	case reflect.Struct:
		for i := range from.NumField() {
			layCopy(to.Field(i), from.Field(i))
		}
	case reflect.Slice:
		if from.Len() == 0 {
			return
		}
		to.Set(reflect.MakeSlice(from.Type(), from.Len(), from.Len()))
		for i := range from.Len() {
			layCopy(to.Index(i), from.Index(i))
		}
	default:
		to.Set(from)
	}
}
