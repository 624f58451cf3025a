package lits

import (
	"pergola/api"
	"pergola/tree"
)

// checker gathers faults, in any order and as often as they are found.
type checker struct {
	catalog *catalog
	found   []api.Fault
}

func (c *catalog) faults(v api.Lit, at want) []api.Fault {
	k := checker{catalog: c}
	k.look(v, at)
	return tree.Faults(k.found)
}

func (k *checker) tell(kind api.Errno, places ...api.Pos) {
	k.found = append(k.found, api.Fault{Kind: kind, Pos: places})
}

func (k *checker) look(v api.Lit, at want) {
	switch w := at.(type) {
	case nonNull:
		if v.Kind != api.LitNull {
			k.look(v, w.rest)
		} else if !w.open() {
			k.tell(api.ErrValue, v.Pos)
		}
	case list:
		k.lookAtList(v, w)
	case *named:
		k.lookAtNamed(v, w)
	}
}

func (k *checker) lookAtList(v api.Lit, at list) {
	switch v.Kind {
	case api.LitNull, api.LitVar:
	case api.LitList:
		k.lookAtEach(v.Items, at.item)
	default:
		k.look(v, at.item)
	}
}

func (k *checker) lookAtEach(items []api.Lit, at want) {
	for _, item := range items {
		k.look(item, at)
	}
}

// lookAtNamed looks at the parts of a literal that isn't taken too.
func (k *checker) lookAtNamed(v api.Lit, at *named) {
	if !at.takes(v) {
		k.tell(api.ErrValue, v.Pos)
	}
	switch v.Kind {
	case api.LitList:
		k.lookAtEach(v.Items, at.inside())
	case api.LitObject:
		k.lookAtObject(v, at)
	}
}

func (k *checker) lookAtObject(v api.Lit, at *named) {
	places := map[string][]api.Pos{}
	for _, field := range v.Fields {
		places[field.Name] = append(places[field.Name], field.Pos)
		place, ok := k.catalog.field(at, field.Name)
		if !ok {
			k.tell(api.ErrInFieldNone, field.Pos)
		}
		k.look(field.Value, place)
	}
	met := 0
	for name, all := range places {
		if len(all) > 1 {
			k.tell(api.ErrInFieldSame, all...)
		}
		if at.requires(name) {
			met++
		}
	}
	if met < at.required {
		k.tell(api.ErrInFieldMissing, v.Pos)
	}
}

func (n *named) requires(name string) bool {
	number, ok := n.numbers[name]
	return ok && n.kind == api.SysInput && isRequired(n.inputs[number])
}
