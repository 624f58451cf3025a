package typesys

import (
	"pergola/api"
	"pergola/copies"
)

// Field is the definition of a type's field, the fields that every type or the query root has by itself too.
func (t *Types) Field(typ, field string) (api.FieldDef, bool) {
	t = t.whole()
	def, _ := t.types.find(typ)
	if !isComposite(def.Kind) {
		return api.FieldDef{}, false
	}
	if own, ok := t.ownField(def, field); ok {
		return own, true
	}
	number, ok := t.fields[pair{typ, field}]
	if !ok {
		return api.FieldDef{}, false
	}
	return copies.Field(def.Fields[number]), true
}

// ownField is a field that a composite type has by itself; some are the query root's alone.
func (t *Types) ownField(d api.SysDef, name string) (api.FieldDef, bool) {
	switch {
	case name == "__typename":
		return field(name, "String", "!"), true
	case name == "__schema" && t.isQueryRoot(d):
		return field(name, "__Schema", "!"), true
	case name == "__type" && t.isQueryRoot(d):
		return field(name, "__Type", "", input("name", "String", "!")), true
	}
	return api.FieldDef{}, false
}

func (t *Types) isQueryRoot(d api.SysDef) bool {
	return d.Kind == api.SysObject && d.Name == t.Root(api.DefQuery)
}

func isComposite(kind api.SysKind) bool {
	return kind == api.SysObject || kind == api.SysInterface || kind == api.SysUnion
}

// firstFields numbers the fields of all types; of several of one name in a type the first counts.
func firstFields(types book) map[pair]int {
	numbers := map[pair]int{}
	for _, d := range types.defs {
		for i, f := range d.Fields {
			key := pair{d.Name, f.Name}
			if _, ok := numbers[key]; !ok {
				numbers[key] = i
			}
		}
	}
	return numbers
}
