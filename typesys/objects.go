package typesys

import (
	"cmp"
	"slices"

	"pergola/api"
)

// relate finds which type stands under which, and which objects each may stand for.
func (t *Types) relate() {
	for number, d := range t.types.defs {
		switch d.Kind {
		case api.SysObject:
			t.seat(d.Name, d.Name, 0)
			for _, iface := range t.implement(d) {
				t.seat(iface, d.Name, number)
			}
		case api.SysInterface:
			t.implement(d)
		case api.SysUnion:
			t.unite(d)
		}
	}
}

// implement puts a type under the interfaces that it names, and answers their names.
func (t *Types) implement(d api.SysDef) []string {
	var ifaces []string
	for _, iface := range d.Ifaces {
		if t.types.kind(iface.Name) == api.SysInterface {
			t.under[pair{d.Name, iface.Name}] = struct{}{}
			ifaces = append(ifaces, iface.Name)
		}
	}
	return ifaces
}

// unite puts a union's objects under it.
func (t *Types) unite(union api.SysDef) {
	for i, member := range union.Members {
		if t.types.kind(member.Name) == api.SysObject {
			t.under[pair{member.Name, union.Name}] = struct{}{}
			t.seat(union.Name, member.Name, i)
		}
	}
}

// seat lays an object among those that a type may stand for, unless it is there.
func (t *Types) seat(name, object string, rank int) {
	if t.objects[name] == nil {
		t.objects[name] = map[string]int{}
	}
	if _, ok := t.objects[name][object]; !ok {
		t.objects[name][object] = rank
	}
}

// Possible are the object types that a composite type may stand for.
func (t *Types) Possible(name string) []string {
	ranks := t.whole().objects[name]
	names := make([]string, 0, len(ranks))
	for object := range ranks {
		names = append(names, object)
	}
	// A map has no order of its own: the ranks say which one is told.
	slices.SortFunc(names, func(a, b string) int {
		return cmp.Compare(ranks[a], ranks[b])
	})
	return names
}

// Meet: is there an object type that both may stand for?
func (t *Types) Meet(a, b string) bool {
	objects := t.whole().objects
	few, many := objects[a], objects[b]
	if len(few) > len(many) {
		few, many = many, few
	}
	for object := range few {
		if _, ok := many[object]; ok {
			return true
		}
	}
	return false
}

// Within: is a the type b, or one that stands under it?
func (t *Types) Within(a, b string) bool {
	t = t.whole()
	if a == b {
		return t.types.kind(a) != 0
	}
	_, ok := t.under[pair{a, b}]
	return ok
}
