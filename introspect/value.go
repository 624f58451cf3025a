package introspect

import (
	"strings"

	"pergola/api"
	"pergola/printer"
)

// text is a string in memory of its own, for a name may come out of a handle or an argument that was handed in.
func text(s string) api.Value {
	return api.Value{Kind: api.KindString, Text: strings.Clone(s)}
}

func truth(is bool) api.Value {
	return api.Value{Kind: api.KindBool, Bool: is}
}

func newHandle(typ, own string) api.Value {
	return api.Value{Kind: api.KindHandle, Type: typ, Text: own}
}

func typeHandle(r api.TypeRef) api.Value {
	return newHandle(typeType, written(r))
}

func namedHandle(name string) api.Value {
	return typeHandle(api.TypeRef{Name: name})
}

// written is a reference as it stands in a handle.
func written(r api.TypeRef) string {
	return printer.Type(r)
}

// list is a list of what each of the things is told as.
func list[T any](things []T, told func(T) api.Value) api.Value {
	items := make([]api.Value, len(things))
	for i, thing := range things {
		items[i] = told(thing)
	}
	return api.Value{Kind: api.KindList, Items: items}
}

// description is null where there is none; an empty one is told.
func description(n api.Note) api.Value {
	if !n.Has {
		return api.Value{}
	}
	return text(n.Text)
}
