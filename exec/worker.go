package exec

import (
	"strings"

	"pergola/api"
	"pergola/introspect"
	"pergola/typesys"
	"pergola/values"
)

// worker executes a top field and all that is beneath it. What it finds stands in the order in which it arose. If the nodes run out, it gives up as if all failed, for nothing of it is told then.
type worker struct {
	*operation
	value   api.Value // what came out of the top field
	isThere bool      // false, if that failed
	faults  []finding
	calls   []finding
}

// finding is a fault or a look-up. Its path and its places are written out at the very end: where the nodes run out, there may be no room for all of them.
type finding struct {
	kind api.Errno
	at   *branch
	path *trail
}

// top executes the worker's top field.
func (w *worker) top(o *operation, b *branch) {
	w.operation = o
	if w.next() {
		w.value, w.isThere = w.field(b, nil, api.Value{})
	}
}

// fields are those of the object at a path, and the handle that stands there; false, if the object fails.
func (w *worker) fields(branches []branch, path *trail, handle api.Value) (api.Value, bool) {
	var made assembly
	for i := range branches {
		if !w.next() {
			return api.Value{}, false
		}
		b := &branches[i]
		v, ok := w.field(b, path, handle)
		made.add(b.group.Key, v, ok)
	}
	return made.object()
}

// field is what comes out of a field of the object at a path; false, if the field fails.
func (w *worker) field(b *branch, path *trail, handle api.Value) (api.Value, bool) {
	w.learn(b)
	path = path.key(b.group.Key)
	v, ok := w.outcome(b, path, handle)
	if !ok {
		_, isSure := typesys.Bare(b.want)
		return api.Value{}, !isSure
	}
	return w.complete(b, b.want, path, v)
}

// outcome is what a field is answered with; false, if it is a fault.
func (w *worker) outcome(b *branch, path *trail, handle api.Value) (api.Value, bool) {
	if b.errno != api.OK {
		w.fault(api.ErrArgument, b, path)
		return api.Value{}, false
	}
	v, ok := w.answer(b, path, handle)
	if !ok {
		w.fault(api.ErrResolver, b, path)
	}
	return v, ok
}

// answer is what the type system or the table answers a field with.
func (w *worker) answer(b *branch, path *trail, handle api.Value) (api.Value, bool) {
	switch {
	case b.name == "__typename":
		return values.Text(b.parent), true
	case b.parent == w.query && (b.name == "__schema" || b.name == "__type"):
		return introspect.Root(w.types, b.name, b.args)
	case strings.HasPrefix(b.parent, "__"):
		return introspect.Field(w.types, handle, b.name, b.args)
	}
	return w.lookUp(b, path)
}

func (w *worker) lookUp(b *branch, path *trail) (api.Value, bool) {
	w.calls = append(w.calls, finding{at: b, path: path})
	out, ok := w.table.Find(b.callAt(path))
	return out.Value, ok && !out.Fail
}

func (w *worker) fault(kind api.Errno, at *branch, path *trail) {
	w.faults = append(w.faults, finding{kind, at, path})
}
