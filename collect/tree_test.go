package collect_test

import (
	"strings"
	"testing"

	"pergola/api"
	"pergola/coerce"
	"pergola/collect"
	"pergola/jsonout"
	"pergola/typesys"
)

// newTree is the collected tree of an operation, written out: of each group its key, its first node's name, the values of its arguments, and what is beneath it for each object type.
func newTree(t testing.TB, types *typesys.Types, doc api.Document, op int, vars []api.Member) string {
	t.Helper()
	b := treeWriter{types: types, plan: collect.New(types, doc, op, vars), vars: vars, t: t}
	b.write(types.Root(doc.Defs[op].Kind), b.plan.Root())
	return b.out.String()
}

type treeWriter struct {
	types *typesys.Types
	plan  *collect.Plan
	vars  []api.Member
	out   strings.Builder
	t     testing.TB
}

func (b *treeWriter) write(object string, groups []api.Group) {
	for _, g := range groups {
		node, _ := b.plan.Node(g.Nodes[0])
		def, ok := b.types.Field(object, node.Name)
		if !ok {
			b.t.Fatalf("%s has no field %s", object, node.Name)
		}
		args, errno := coerce.Arguments(b.types, def.Args, node.Args, b.vars)
		text, _ := jsonout.Write(api.Value{Kind: api.KindObject, Fields: args})
		if errno != api.OK {
			text = []byte("an error")
		}
		b.out.WriteString(g.Key + "=" + node.Name + string(text))
		for _, inner := range b.types.Possible(def.Type.Name) {
			b.out.WriteString(" " + inner + "[")
			b.write(inner, b.plan.Sub(inner, g.Nodes))
			b.out.WriteString("]")
		}
		b.out.WriteString(";")
	}
}
