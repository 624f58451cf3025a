package coerce_test

import (
	"math"
	"slices"
	"strconv"
	"testing"
	"unicode/utf8"

	"pergola/api"
	"pergola/lits"
	"pergola/number"
	"pergola/printer"
	"pergola/tree"
	"pergola/typesys"
)

// The second way for values: stations are gone through one by one till one doesn't fit; a value of which all stations fit is written as a literal, and layer 13 says what its value is.

// station is a value that is held against a type, at a path.
type station struct {
	v         api.Value
	want      api.TypeRef
	path      []api.Step
	isMissing bool // a field that must be there: want is its type
	isUnknown bool // a member that may not be there
}

func kindOf(v api.Value) api.Kind {
	if v.Kind < 0 || v.Kind > api.KindHandle {
		return api.KindNull
	}
	return v.Kind
}

// model is what Input should answer, as inputText writes it.
func model(t testing.TB, types *typesys.Types, v api.Value, want api.TypeRef) string {
	t.Helper()
	stack := []station{{v: v, want: want}}
	for len(stack) > 0 {
		last := stack[len(stack)-1]
		more, ok := follow(types, last)
		if !ok {
			return misfitAt(last)
		}
		slices.Reverse(more)
		stack = append(stack[:len(stack)-1], more...)
	}
	made, ok := lits.Const(types, litOf(types, v, want), want)
	if !ok {
		return misfitAt(station{want: want})
	}
	return written(t, made)
}

func misfitAt(s station) string {
	if s.isUnknown {
		s.want = api.TypeRef{}
	}
	return tree.PathText(s.path) + " wants " + printer.Type(s.want)
}

// follow: does what stands at a station fit, and which stations come next?
func follow(types *typesys.Types, s station) ([]station, bool) {
	if s.isMissing || s.isUnknown {
		return nil, false
	}
	null := kindOf(s.v) == api.KindNull
	if n := len(s.want.Wrap); n > 0 {
		inner := api.TypeRef{Name: s.want.Name, Wrap: s.want.Wrap[:n-1]}
		switch {
		case s.want.Wrap[n-1] == '!':
			return []station{{v: s.v, want: inner, path: s.path}}, !null
		case null:
			return nil, true
		case s.v.Kind != api.KindList:
			return []station{{v: s.v, want: inner, path: s.path}}, true
		}
		var out []station
		for i, item := range s.v.Items {
			out = append(out, station{v: item, want: inner, path: further(s.path, api.Step{Index: i, Item: true})})
		}
		return out, true
	}
	if null {
		return nil, true
	}
	def, _ := types.Type(s.want.Name)
	if def.Kind == api.SysInput {
		return followObject(def, s), s.v.Kind == api.KindObject
	}
	return nil, suits(def, s.v)
}

func further(path []api.Step, step api.Step) []api.Step {
	return append(slices.Clone(path), step)
}

func followObject(def api.SysDef, s station) []station {
	var out []station
	for i, member := range s.v.Fields {
		known := slices.ContainsFunc(def.Inputs, func(d api.InputDef) bool { return d.Name == member.Name })
		twice := slices.ContainsFunc(s.v.Fields[:i], func(m api.Member) bool { return m.Name == member.Name })
		if !known || twice {
			out = append(out, station{isUnknown: true, path: further(s.path, api.Step{Name: member.Name})})
		}
	}
	for _, input := range def.Inputs {
		at := station{want: input.Type, path: further(s.path, api.Step{Name: input.Name})}
		i := slices.IndexFunc(s.v.Fields, func(m api.Member) bool { return m.Name == input.Name })
		at.isMissing = i < 0 && !input.HasDefault && input.Type.Wrap != "" && input.Type.Wrap[len(input.Type.Wrap)-1] == '!'
		if i >= 0 {
			at.v = s.v.Fields[i].Value
		}
		if i >= 0 || at.isMissing {
			out = append(out, at)
		}
	}
	return out
}

func suits(def api.SysDef, v api.Value) bool {
	isText := v.Kind == api.KindString && utf8.ValidString(v.Text)
	switch {
	case def.Kind == api.SysEnum:
		return isText && slices.ContainsFunc(def.Values, func(d api.ValueDef) bool { return d.Name == v.Text })
	case def.Kind != api.SysScalar:
		return false
	case def.Name == "Int":
		return v.Kind == api.KindInt && v.Int == int64(int32(v.Int))
	case def.Name == "Float":
		return v.Kind == api.KindInt || v.Kind == api.KindFloat && v.Float-v.Float == 0
	case def.Name == "String":
		return isText
	case def.Name == "Boolean":
		return v.Kind == api.KindBool
	case def.Name == "ID":
		return isText || v.Kind == api.KindInt
	}
	_, errno := tree.Sound(v)
	return errno == api.OK
}

// litOf writes a value as a literal for a place.
func litOf(types *typesys.Types, v api.Value, want api.TypeRef) api.Lit {
	item, isList := typesys.Item(want)
	def, _ := types.Type(want.Name)
	switch kindOf(v) {
	case api.KindBool:
		return api.Lit{Kind: api.LitBool, Text: strconv.FormatBool(v.Bool)}
	case api.KindInt:
		return api.Lit{Kind: api.LitInt, Text: strconv.FormatInt(v.Int, 10)}
	case api.KindFloat:
		return api.Lit{Kind: api.LitFloat, Text: number.FloatText(v.Float)}
	case api.KindString:
		if def.Kind == api.SysEnum {
			return api.Lit{Kind: api.LitEnum, Text: v.Text}
		}
		return api.Lit{Kind: api.LitString, Text: v.Text}
	case api.KindList:
		if !isList {
			item = want
		}
		out := api.Lit{Kind: api.LitList}
		for _, one := range v.Items {
			out.Items = append(out.Items, litOf(types, one, item))
		}
		return out
	case api.KindObject:
		out := api.Lit{Kind: api.LitObject}
		for _, member := range v.Fields {
			out.Fields = append(out.Fields, api.LitField{Name: member.Name, Value: litOf(types, member.Value, fieldType(def, member.Name))})
		}
		return out
	}
	return api.Lit{Kind: api.LitNull}
}

// fieldType is the type of a field's place in an object at a type: at a scalar of one's own it is that scalar again.
func fieldType(def api.SysDef, name string) api.TypeRef {
	for _, input := range def.Inputs {
		if input.Name == name {
			return input.Type
		}
	}
	return api.TypeRef{Name: def.Name}
}

// The second way for literals: variables are put into the literal as literals, those without a value are taken out of it, and layer 13 says what its value is. It holds for variables whose values fit their places.

// modelLiteral is what Literal should answer, as literalText writes it.
func modelLiteral(t testing.TB, types *typesys.Types, v api.Lit, want api.TypeRef, vars []api.Member) string {
	t.Helper()
	put, ok := putIn(types, v, want, vars)
	if !ok {
		return isNone
	}
	made, ok := lits.Const(types, put, want)
	if !ok {
		return fails
	}
	return written(t, made)
}

// putIn is a literal with its variables' values; false, if it is a variable without one.
func putIn(types *typesys.Types, v api.Lit, want api.TypeRef, vars []api.Member) (api.Lit, bool) {
	item, isList := typesys.Item(want)
	if !isList {
		item, _ = typesys.Bare(want)
	}
	switch v.Kind {
	case api.LitVar:
		i := slices.IndexFunc(vars, func(m api.Member) bool { return m.Name == v.Text })
		if i < 0 {
			return api.Lit{}, false
		}
		return litOf(types, vars[i].Value, want), true
	case api.LitList:
		out := api.Lit{Kind: v.Kind}
		for _, one := range v.Items {
			put, ok := putIn(types, one, item, vars)
			if !ok {
				put = api.Lit{Kind: api.LitNull}
			}
			out.Items = append(out.Items, put)
		}
		return out, true
	case api.LitObject:
		def, _ := types.Type(want.Name)
		out := api.Lit{Kind: v.Kind}
		for _, field := range v.Fields {
			if put, ok := putIn(types, field.Value, fieldType(def, field.Name), vars); ok {
				out.Fields = append(out.Fields, api.LitField{Name: field.Name, Value: put})
			}
		}
		return out, true
	}
	return v, true
}

// The second way works as the chapter says of its examples.
func TestModel(t *testing.T) {
	types := sound(t, chapter)
	for _, r := range []inputRow{
		{"9007199254740993", "Float", "9007199254740992.0"},
		{"[1,null]", "[Int!]!", "/1 wants Int!"},
		{"1", "[[Int]]", "[[1]]"},
		{`{"d":null,"a":1}`, "I", `{"a":1,"c":["A"],"d":null}`},
		{`{"a":1,"x":2,"c":[7]}`, "I!", "/x wants "},
		{`{"a":1,"b":{}}`, "I", "/b/a wants Int!"},
		{`{"a":1,"c":["A",["B"]]}`, "I", "/c/1 wants E"},
		{`{"p":[1,{"q":0.5}]}`, "S", `{"p":[1,{"q":0.5}]}`},
		{"{}", "[R]", " wants [R]"},
	} {
		if got := model(t, types, value(t, r.value), ref(t, r.typ)); got != r.want {
			t.Errorf("%s at %s: got %s, want %s", r.value, r.typ, got, r.want)
		}
	}
	if suits(api.SysDef{Kind: api.SysScalar, Name: "Float"}, api.Value{Kind: api.KindFloat, Float: math.Inf(1)}) {
		t.Error("an infinite float suits")
	}
	for _, r := range []literalRow{
		{"{a: $v b: {a: 2 b: $w} c: $u}", "I", `{"v":5,"u":null}`, `{"a":5,"b":{"a":2,"c":["A"],"d":4.0},"c":null,"d":4.0}`},
		{"{a: $w}", "I", "", fails},
		{"[$v $w]", "[Int!]", `{"v":5}`, fails},
		{"$w", "Int", "", isNone},
		{"{p: $w q: [$w $v]}", "S", `{"v":5}`, `{"q":[null,5]}`},
	} {
		if got := modelLiteral(t, types, lit(t, r.lit), ref(t, r.typ), members(t, r.vars)); got != r.want {
			t.Errorf("%s at %s: got %s, want %s", r.lit, r.typ, got, r.want)
		}
	}
}
