package collect

import (
	"slices"

	"pergola/api"
	"pergola/scope"
	"pergola/values"
)

// body is what is in braces, and the type to which it applies: none where it applies to all.
type body struct {
	on    string
	inner []int
}

// selection is what counts of a node here.
type selection struct {
	kind api.SelKind
	key  string // a field's
	name string // a spread's
	body        // of a spread the fragment's
}

// sieve tells for each node whether it is left out. What is left out can't come back, so no list of a plan has it.
type sieve []bool

func newSieve(nodes []api.Node, vars []api.Member) sieve {
	lookup := values.NewLookup(vars)
	s := make(sieve, len(nodes))
	for i, node := range nodes {
		s[i] = isLeftOut(node.Dirs, lookup)
	}
	return s
}

// rest takes what is left out out of a list.
func (s sieve) rest(numbers []int) []int {
	return slices.DeleteFunc(numbers, func(number int) bool { return s[number] })
}

// bodiesOf are those of all definitions. Each is made once, for a fragment may be spread often.
func bodiesOf(sheet *scope.Sheet, defs []api.Def, s sieve) []body {
	bodies := make([]body, len(defs))
	for i, def := range defs {
		bodies[i] = body{def.On, s.rest(sheet.Tops(i))}
	}
	return bodies
}

// selectionsOf are those of all nodes.
func selectionsOf(sheet *scope.Sheet, nodes []api.Node, bodies []body, s sieve) []selection {
	all := make([]selection, len(nodes))
	for i, node := range nodes {
		all[i] = selection{kind: node.Kind, key: node.Key, name: node.Name, body: body{node.On, s.rest(node.Kids)}}
		if node.Kind != api.SelSpread {
			continue
		}
		if number, ok := sheet.Fragment(node.Name); ok {
			all[i].body = bodies[number]
		}
	}
	return all
}

// isLeftOut: do the directives skip and include leave out what they stand at?
func isLeftOut(dirs []api.Dir, vars *values.Lookup) bool {
	skip, hasSkip := firstOf(dirs, "skip")
	include, hasInclude := firstOf(dirs, "include")
	return hasSkip && isTrue(skip, vars) || hasInclude && !isTrue(include, vars)
}

// firstOf is the first directive of a name.
func firstOf(dirs []api.Dir, name string) (api.Dir, bool) {
	i := slices.IndexFunc(dirs, func(d api.Dir) bool { return d.Name == name })
	if i < 0 {
		return api.Dir{}, false
	}
	return dirs[i], true
}

// isTrue: is the value of a directive's if true? A variable that isn't there is null, and null isn't true.
func isTrue(d api.Dir, vars *values.Lookup) bool {
	i := slices.IndexFunc(d.Args, func(a api.Arg) bool { return a.Name == "if" })
	if i < 0 {
		return false
	}
	switch lit := d.Args[i].Value; lit.Kind {
	case api.LitBool:
		return lit.Text == "true"
	case api.LitVar:
		v, _ := vars.Find(lit.Text)
		return v.Kind == api.KindBool && v.Bool
	}
	return false
}
