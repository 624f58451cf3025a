package exec

import (
	"pergola/api"
	"pergola/result"
	"pergola/typesys"
	"pergola/values"
)

// complete holds a value against a type; false, if it fails.
func (w *worker) complete(b *branch, want api.TypeRef, path *trail, v api.Value) (api.Value, bool) {
	bare, isSure := typesys.Bare(want)
	made, came := w.below(b, bare, path, v)
	if isSure && came && values.IsNull(made) {
		w.fault(api.ErrNull, b, path)
		return api.Value{}, false
	}
	return made, came || !isSure
}

// below holds a value against a type that lets null out; false, if nothing comes out.
func (w *worker) below(b *branch, want api.TypeRef, path *trail, v api.Value) (api.Value, bool) {
	if values.IsNull(v) {
		return api.Value{}, true
	}
	if item, isList := typesys.Item(want); isList {
		return w.list(b, item, path, v)
	}
	if w.types.Input(want.Name) {
		return w.leaf(b, want.Name, path, v)
	}
	return w.composite(b, want.Name, path, v)
}

// list goes through all items, behind one that fails too.
func (w *worker) list(b *branch, item api.TypeRef, path *trail, v api.Value) (api.Value, bool) {
	if v.Kind != api.KindList {
		return w.nothing(api.ErrResult, b, path)
	}
	made, isWhole := api.Value{Kind: api.KindList}, true
	for i, inner := range v.Items {
		if !w.next() {
			return api.Value{}, false
		}
		out, ok := w.complete(b, item, path.item(i), inner)
		made.Items = append(made.Items, out)
		isWhole = isWhole && ok
	}
	if !isWhole {
		return api.Value{}, false
	}
	return made, true
}

func (w *worker) leaf(b *branch, name string, path *trail, v api.Value) (api.Value, bool) {
	made, errno := result.Leaf(w.types, name, v)
	if errno != api.OK {
		return w.nothing(errno, b, path)
	}
	return made, true
}

func (w *worker) composite(b *branch, name string, path *trail, v api.Value) (api.Value, bool) {
	object, errno := result.Runtime(w.types, name, v)
	if errno != api.OK {
		return w.nothing(errno, b, path)
	}
	return w.fields(w.under(b, object), path, v)
}

// nothing comes out, and that is a fault.
func (w *worker) nothing(kind api.Errno, b *branch, path *trail) (api.Value, bool) {
	w.fault(kind, b, path)
	return api.Value{}, false
}

// assembly is an object in the making. It fails if one of its fields does.
type assembly struct {
	members []api.Member
	fails   bool
}

func (a *assembly) add(key string, v api.Value, ok bool) {
	a.members = append(a.members, api.Member{Name: key, Value: v})
	a.fails = a.fails || !ok
}

func (a *assembly) object() (api.Value, bool) {
	if a.fails {
		return api.Value{}, false
	}
	return api.Value{Kind: api.KindObject, Fields: a.members}, true
}
