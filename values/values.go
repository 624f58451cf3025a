// Package values is what the layers share that hold values against types or look them up: which value counts as null, what is left of a value when all that doesn't count is taken away, and the value that a name has.
package values

import (
	"math"
	"strings"

	"pergola/api"
)

// IsNull: is it null, or of a kind outside the table?
func IsNull(v api.Value) bool {
	return v.Kind <= api.KindNull || v.Kind > api.KindHandle
}

// IsFinite: is it neither an infinity nor a NaN?
func IsFinite(f float64) bool {
	return !math.IsNaN(f) && !math.IsInf(f, 0)
}

// Text is a string in memory of its own, for it mostly comes out of what was handed in.
func Text(s string) api.Value {
	return api.Value{Kind: api.KindString, Text: strings.Clone(s)}
}

// Plain is a copy of a value that has nothing but what its kinds count.
func Plain(v api.Value) api.Value {
	switch v.Kind {
	case api.KindBool:
		return api.Value{Kind: v.Kind, Bool: v.Bool}
	case api.KindInt:
		return api.Value{Kind: v.Kind, Int: v.Int}
	case api.KindFloat:
		return api.Value{Kind: v.Kind, Float: v.Float}
	case api.KindString:
		return Text(v.Text)
	case api.KindHandle:
		return api.Value{Kind: v.Kind, Type: strings.Clone(v.Type), Text: strings.Clone(v.Text)}
	case api.KindList:
		return plainList(v.Items)
	case api.KindObject:
		return plainObject(v.Fields)
	}
	return api.Value{}
}

func plainList(items []api.Value) api.Value {
	made := api.Value{Kind: api.KindList, Items: make([]api.Value, len(items))}
	for i, item := range items {
		made.Items[i] = Plain(item)
	}
	return made
}

func plainObject(members []api.Member) api.Value {
	made := api.Value{Kind: api.KindObject, Fields: make([]api.Member, len(members))}
	for i, member := range members {
		made.Fields[i] = api.Member{Name: strings.Clone(member.Name), Value: Plain(member.Value)}
	}
	return made
}
