package result

import (
	"slices"
	"strconv"

	"pergola/api"
	"pergola/number"
	"pergola/tree"
	"pergola/typesys"
	"pergola/utf"
	"pergola/values"
)

// letOut is what a scalar or enum type lets out of a value that isn't null; false: nothing.
func letOut(t *typesys.Types, name string, v api.Value) (api.Value, bool) {
	switch name {
	case "Int":
		return asInt(v)
	case "Float":
		return asFloat(v)
	case "String":
		return asString(v)
	case "Boolean":
		return asBoolean(v)
	case "ID":
		return asID(v)
	}
	def, _ := t.Type(name)
	if def.Kind == api.SysEnum {
		return asEnum(def.Values, v)
	}
	return asCustom(v)
}

func asInt(v api.Value) (api.Value, bool) {
	switch v.Kind {
	case api.KindFloat:
		whole, ok := number.Whole(v.Float)
		if !ok {
			return none()
		}
		v.Int = whole
		fallthrough
	case api.KindInt:
		return api.Value{Kind: api.KindInt, Int: v.Int}, number.Fits(v.Int)
	}
	return none()
}

func asFloat(v api.Value) (api.Value, bool) {
	switch v.Kind {
	case api.KindInt:
		float, ok := number.OfWhole(v.Int)
		if !ok {
			return none()
		}
		v.Float = float
		fallthrough
	case api.KindFloat:
		return api.Value{Kind: api.KindFloat, Float: v.Float}, values.IsFinite(v.Float)
	}
	return none()
}

func asString(v api.Value) (api.Value, bool) {
	switch v.Kind {
	case api.KindFloat:
		if !values.IsFinite(v.Float) {
			return none()
		}
		fallthrough
	case api.KindInt, api.KindBool:
		v.Text = spelt(v)
		fallthrough
	case api.KindString:
		return asText(v.Text)
	}
	return none()
}

// spelt is the text of a number or a boolean.
func spelt(v api.Value) string {
	switch v.Kind {
	case api.KindFloat:
		return number.FloatText(v.Float)
	case api.KindInt:
		return number.WholeText(v.Int)
	}
	return strconv.FormatBool(v.Bool)
}

func asBoolean(v api.Value) (api.Value, bool) {
	return api.Value{Kind: api.KindBool, Bool: v.Bool}, v.Kind == api.KindBool
}

func asID(v api.Value) (api.Value, bool) {
	switch v.Kind {
	case api.KindFloat:
		whole, ok := number.Whole(v.Float)
		if !ok {
			return none()
		}
		v.Int = whole
		fallthrough
	case api.KindInt:
		v.Text = number.WholeText(v.Int)
		fallthrough
	case api.KindString:
		return asText(v.Text)
	}
	return none()
}

func asText(s string) (api.Value, bool) {
	return values.Text(s), utf.Clean(s)
}

func asEnum(all []api.ValueDef, v api.Value) (api.Value, bool) {
	isNamed := slices.ContainsFunc(all, func(d api.ValueDef) bool {
		return d.Name == v.Text
	})
	return values.Text(v.Text), isNamed && v.Kind == api.KindString
}

// asCustom is any value that may be written as JSON: a scalar type of a schema's own says nothing more.
func asCustom(v api.Value) (api.Value, bool) {
	if _, errno := tree.Sound(v); errno != api.OK {
		return none()
	}
	return values.Plain(v), true
}

func none() (api.Value, bool) {
	return api.Value{}, false
}
