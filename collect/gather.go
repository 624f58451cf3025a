package collect

import (
	"slices"

	"pergola/api"
	"pergola/tree"
	"pergola/typesys"
)

// gatherer goes through selections for one object type, and brings the fields of one key together.
type gatherer struct {
	*Plan
	object  string
	groups  *tree.Ordered[string, []int]
	met     map[string]struct{} // the names of fragments that were spread
	waiting [][]int             // what is yet to be gone through, from the last list on
}

// collect are the groups out of lists of selections, one behind the other.
func (p *Plan) collect(object string, lists ...[]int) []api.Group {
	if !isObject(p.types, object) {
		return nil
	}
	g := &gatherer{Plan: p, object: object, groups: tree.NewOrdered[string, []int](), met: map[string]struct{}{}}
	for _, list := range lists {
		g.through(list)
	}
	return g.told()
}

// isObject: an object stands for itself, and no interface or union does. (To look at the type itself would copy it.)
func isObject(t *typesys.Types, name string) bool {
	return slices.Contains(t.Possible(name), name)
}

// through goes through a list and all that stands in its spreads' places. No call is nested, for a row of fragments may be as long as the document.
func (g *gatherer) through(list []int) {
	g.enter(list)
	for len(g.waiting) > 0 {
		last := len(g.waiting) - 1
		list := g.waiting[last]
		if len(list) == 0 {
			g.waiting = g.waiting[:last]
			continue
		}
		g.waiting[last] = list[1:]
		g.way(list[0])(list[0])
	}
}

// enter lays a list ahead of all that waits.
func (g *gatherer) enter(list []int) {
	g.waiting = append(g.waiting, list)
}

// way is how a selection is gone through, by its kind.
func (g *gatherer) way(number int) func(int) {
	switch g.selections[number].kind {
	case api.SelField:
		return g.field
	case api.SelSpread:
		return g.spread
	case api.SelInline:
		return g.inline
	}
	return g.pass
}

func (g *gatherer) field(number int) {
	key := g.selections[number].key
	nodes, _ := g.groups.Get(key)
	g.groups.Put(key, append(nodes, number))
}

// spread goes into a fragment at its first spread alone, be it that it applies or not.
func (g *gatherer) spread(number int) {
	name := g.selections[number].name
	if _, isMet := g.met[name]; isMet {
		return
	}
	g.met[name] = struct{}{}
	g.inline(number)
}

func (g *gatherer) inline(number int) {
	b := g.selections[number].body
	if b.on == "" || g.types.Within(g.object, b.on) {
		g.enter(b.inner)
	}
}

// pass does nothing with what is of no kind.
func (g *gatherer) pass(int) {}

// told are the groups in the order in which their keys were met.
func (g *gatherer) told() []api.Group {
	groups := make([]api.Group, 0, g.groups.Len())
	for key, nodes := range g.groups.All() {
		groups = append(groups, api.Group{Key: key, Nodes: nodes})
	}
	return groups
}
