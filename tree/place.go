package tree

import (
	"iter"

	"pergola/api"
)

// Get is what stands at a path.
func Get(v api.Value, path []api.Step) (api.Value, bool) {
	part := lead(&v, path)
	if part == nil {
		return api.Value{}, false
	}
	return Copy(*part), true
}

// Set is v with w at a path.
func Set(v api.Value, path []api.Step, w api.Value) (api.Value, bool) {
	out := Copy(v)
	part := lead(&out, path)
	if part == nil {
		return api.Value{}, false
	}
	*part = Copy(w)
	return out, true
}

// lead is where a path leads from v; nil is nowhere.
func lead(v *api.Value, path []api.Step) *api.Value {
	for _, step := range path {
		v = child(v, step)
		if v == nil {
			return nil
		}
	}
	return v
}

// child is where one step leads from v; nil is nowhere.
func child(v *api.Value, step api.Step) *api.Value {
	if step.Item {
		if v.Kind != api.KindList || step.Index < 0 || step.Index >= len(v.Items) {
			return nil
		}
		return &v.Items[step.Index]
	}
	if v.Kind != api.KindObject {
		return nil
	}
	for i := range v.Fields {
		if v.Fields[i].Name == step.Name {
			return &v.Fields[i].Value
		}
	}
	return nil
}

// Walk goes through all parts with their paths.
func Walk(v api.Value) iter.Seq2[[]api.Step, api.Value] {
	return walkFrom(nil, v)
}

// walkFrom is Walk of a part that stands at a path. Its children's paths are laid into the spare room behind that path, one after the other: so what is yielded is a copy.
func walkFrom(path []api.Step, v api.Value) iter.Seq2[[]api.Step, api.Value] {
	return func(yield func([]api.Step, api.Value) bool) {
		if !yield(append([]api.Step(nil), path...), v) {
			return
		}
		for step, child := range children(v) {
			for at, part := range walkFrom(append(path, step), child) {
				if !yield(at, part) {
					return
				}
			}
		}
	}
}
