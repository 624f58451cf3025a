package exec

import (
	"pergola/api"
	"pergola/coerce"
	"pergola/collect"
	"pergola/copies"
	"pergola/table"
	"pergola/typesys"
)

// operation is what all that work at one share. Nothing in it changes but the budget, which several may ask at one time.
type operation struct {
	*budget
	types *typesys.Types
	plan  *collect.Plan
	table *table.Table
	vars  []api.Member
	kind  api.DefKind
	root  string // its root type
	query string // the query's root type
}

func newOperation(t *typesys.Types, d api.Document, op int, vars []api.Member, entries []api.Entry, nodes int) *operation {
	o := &operation{
		budget: newBudget(nodes),
		types:  t,
		plan:   collect.New(t, d, op, vars),
		table:  table.New(entries),
		vars:   vars,
		query:  t.Root(api.DefQuery),
	}
	if op >= 0 && op < len(d.Defs) {
		o.kind = d.Defs[op].Kind
		o.root = t.Root(o.kind)
	}
	return o
}

// branch is a field of the collected tree: a group that was collected for an object type, and what is alike wherever it is executed. All items of a list share it, and one goroutine alone goes through what is beneath a top field.
type branch struct {
	parent  string
	group   api.Group
	isKnown bool // is what follows found out?
	name    string
	want    api.TypeRef
	args    []api.Member
	call    api.Call            // a look-up of it, but for the path
	errno   api.Errno           // what its arguments are refused with
	beneath map[string][]branch // by the object type that stands there
	places  []api.Pos           // its nodes', as soon as one has asked
}

func branchesOf(parent string, groups []api.Group) []branch {
	branches := make([]branch, len(groups))
	for i, group := range groups {
		branches[i] = branch{parent: parent, group: group, beneath: map[string][]branch{}}
	}
	return branches
}

// learn finds out what is alike, at the first execution: many branches are never executed, where the nodes run out.
func (o *operation) learn(b *branch) {
	if b.isKnown {
		return
	}
	b.isKnown = true
	node, _ := o.plan.Node(b.group.Nodes[0])
	def, _ := o.types.Field(b.parent, node.Name)
	b.name, b.want = node.Name, def.Type
	b.args, b.errno = coerce.Arguments(o.types, def.Args, node.Args, o.vars)
	if b.errno == api.OK {
		b.call, b.errno = table.Key(nil, b.parent, b.name, b.args)
	}
}

// under are the branches beneath one, for an object type.
func (o *operation) under(b *branch, object string) []branch {
	branches, isThere := b.beneath[object]
	if !isThere {
		branches = branchesOf(object, o.plan.Sub(object, b.group.Nodes))
		b.beneath[object] = branches
	}
	return branches
}

// placesOf are those of all the nodes that a branch merges.
func (o *operation) placesOf(b *branch) []api.Pos {
	if b.places == nil {
		for _, number := range b.group.Nodes {
			node, _ := o.plan.Node(number)
			b.places = append(b.places, node.Pos)
		}
	}
	return copies.Flat(b.places)
}

// callAt is a look-up of the branch at a path.
func (b *branch) callAt(path *trail) api.Call {
	call := b.call
	call.Path = path.text()
	return call
}
