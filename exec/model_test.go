package exec_test

import (
	"slices"
	"strconv"
	"strings"

	"pergola/api"
	"pergola/coerce"
	"pergola/collect"
	"pergola/introspect"
	"pergola/jsonout"
	"pergola/result"
	"pergola/typesys"
)

// model is a second way: first all positions are laid in one row, each as if nothing could fail, and what is wrong is written down on the way; behind that, from the last position to the first, what came out of each is settled.
type model struct {
	types   *typesys.Types
	plan    *collect.Plan
	vars    []api.Member
	entries []api.Entry
	row     []position
	waiting []position // from the last one on
	faults  []api.Fault
	trace   []api.Call
}

// position is the root (number 0), a field or an item.
type position struct {
	up      int // the number of the position around it
	path    []api.Step
	parent  string    // of a field the object's type, and the handle that stands there
	handle  api.Value //
	group   api.Group // of an item its field's
	want    api.TypeRef
	resolve bool      // is it a field?
	v       api.Value // what is completed; behind that what came out
	empty   bool      // nothing came out
	kids    []int
}

// modelled is the result by the second way.
func modelled(types *typesys.Types, doc api.Document, op int, vars []api.Member, entries []api.Entry, nodes int) api.Result {
	m := &model{types: types, plan: collect.New(types, doc, op, vars), vars: vars, entries: entries}
	m.row = []position{{up: -1}}
	m.object(0, types.Root(doc.Defs[op].Kind), m.plan.Root())
	for len(m.waiting) > 0 {
		if len(m.row) > nodes {
			return api.Result{Over: true}
		}
		m.lay()
	}
	for i := len(m.row) - 1; i >= 0; i-- {
		m.settle(i)
	}
	return api.Result{Data: m.row[0].v, Faults: m.faults, Trace: m.trace, Nodes: len(m.row) - 1}
}

// lay takes the next position out of those that wait.
func (m *model) lay() {
	i := len(m.row)
	m.row = append(m.row, m.waiting[len(m.waiting)-1])
	m.waiting = m.waiting[:len(m.waiting)-1]
	p := &m.row[i]
	m.row[p.up].kids = append(m.row[p.up].kids, i)
	if !p.resolve || m.resolved(p) {
		m.complete(i)
	}
}

func (m *model) fault(p *position, kind api.Errno) {
	f := api.Fault{Kind: kind, Path: slices.Clone(p.path)}
	for _, n := range p.group.Nodes {
		node, _ := m.plan.Node(n)
		f.Pos = append(f.Pos, node.Pos)
	}
	m.faults = append(m.faults, f)
}

// resolved finds the value of a field; false, if there is none.
func (m *model) resolved(p *position) bool {
	node, _ := m.plan.Node(p.group.Nodes[0])
	def, _ := m.types.Field(p.parent, node.Name)
	p.want = def.Type
	args, errno := coerce.Arguments(m.types, def.Args, node.Args, m.vars)
	kind, ok := api.ErrArgument, false
	if errno == api.OK {
		kind = api.ErrResolver
		p.v, ok = m.answer(p, node.Name, args)
	}
	if !ok {
		m.fault(p, kind)
		p.empty = true
	}
	return ok
}

func (m *model) answer(p *position, name string, args []api.Member) (api.Value, bool) {
	switch {
	case name == "__typename":
		return api.Value{Kind: api.KindString, Text: p.parent}, true
	case strings.HasPrefix(name, "__"):
		return introspect.Root(m.types, name, args)
	case strings.HasPrefix(p.parent, "__"):
		return introspect.Field(m.types, p.handle, name, args)
	}
	text, _ := jsonout.Write(api.Value{Kind: api.KindObject, Fields: args})
	call := api.Call{Parent: p.parent, Field: name, Args: string(text)}
	for _, s := range p.path {
		call.Path += "/" + s.Name
		if s.Item {
			call.Path += strconv.Itoa(s.Index)
		}
	}
	m.trace = append(m.trace, call)
	i := slices.IndexFunc(m.entries, func(e api.Entry) bool { return e.Call == call })
	if i < 0 || m.entries[i].Out.Fail {
		return api.Value{}, false
	}
	return m.entries[i].Out.Value, true
}

// complete holds what stands at a position against its type, and lays what is within it behind all that waits.
func (m *model) complete(i int) {
	p := &m.row[i]
	marks := strings.TrimSuffix(p.want.Wrap, "!")
	switch {
	case p.v.Kind < api.KindBool || p.v.Kind > api.KindHandle:
		p.v = api.Value{}
		if marks != p.want.Wrap {
			m.fault(p, api.ErrNull)
		}
	case strings.HasSuffix(marks, "]"):
		m.items(i, api.TypeRef{Name: p.want.Name, Wrap: strings.TrimSuffix(marks, "]")})
	default:
		m.named(i)
	}
}

func (m *model) items(i int, want api.TypeRef) {
	p := &m.row[i]
	if p.v.Kind != api.KindList {
		m.fault(p, api.ErrResult)
		p.empty = true
		return
	}
	for k, item := range slices.Backward(p.v.Items) {
		step := api.Step{Index: k, Item: true}
		m.waiting = append(m.waiting, position{up: i, path: append(slices.Clone(p.path), step), group: p.group, want: want, v: item})
	}
	p.v = api.Value{Kind: api.KindList}
}

func (m *model) named(i int) {
	p := &m.row[i]
	made, errno := result.Leaf(m.types, p.want.Name, p.v)
	if errno != api.ErrKind {
		p.v = made
	} else {
		var object string
		object, errno = result.Runtime(m.types, p.want.Name, p.v)
		if errno == api.OK {
			m.object(i, object, m.plan.Sub(object, p.group.Nodes))
		}
	}
	if errno != api.OK {
		m.fault(&m.row[i], errno)
		m.row[i].empty = true
	}
}

func (m *model) object(i int, name string, groups []api.Group) {
	p := &m.row[i]
	for _, g := range slices.Backward(groups) {
		path := append(slices.Clone(p.path), api.Step{Name: g.Key})
		m.waiting = append(m.waiting, position{up: i, path: path, parent: name, handle: p.v, group: g, resolve: true})
	}
	p.v = api.Value{Kind: api.KindObject}
}

// fails: does a position that is settled fail?
func (p *position) fails() bool {
	return (p.empty || p.v.Kind == api.KindNull) && strings.HasSuffix(p.want.Wrap, "!")
}

// settle puts what came out of the positions within one in its place.
func (m *model) settle(i int) {
	p := &m.row[i]
	for _, kid := range p.kids {
		k := &m.row[kid]
		p.empty = p.empty || k.fails()
		if p.v.Kind == api.KindObject {
			p.v.Fields = append(p.v.Fields, api.Member{Name: k.group.Key, Value: k.v})
		} else {
			p.v.Items = append(p.v.Items, k.v)
		}
	}
	if p.empty {
		p.v = api.Value{}
	}
}
