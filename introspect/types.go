package introspect

import (
	"pergola/api"
	"pergola/typesys"
)

// wrappedType is a list or non-null type.
type wrappedType struct {
	ref api.TypeRef
}

func (w wrappedType) answer(field string, _ []api.Member) api.Value {
	kind := "NON_NULL"
	inner, isNonNull := typesys.Bare(w.ref)
	if !isNonNull {
		kind = "LIST"
		inner, _ = typesys.Item(w.ref)
	}
	switch field {
	case "kind":
		return text(kind)
	case "ofType":
		return typeHandle(inner)
	}
	return api.Value{}
}

// namedType is a type without marks.
type namedType struct {
	types *typesys.Types
	name  string
}

func (n namedType) answer(field string, args []api.Member) api.Value {
	if field == "name" {
		return text(n.name) // asked most often, and the type system would copy the whole definition for it
	}
	def, _ := n.types.Type(n.name)
	switch field {
	case "kind":
		return text(kindName(def.Kind))
	case "description":
		return description(def.Note)
	}
	return n.byKind(def, field, args)
}

// byKind answers the fields that types of some kinds alone have; of all others they are null.
func (n namedType) byKind(d api.SysDef, field string, args []api.Member) api.Value {
	switch {
	case field == "specifiedByURL" && d.Kind == api.SysScalar:
		return specifiedBy(d.Dirs)
	case field == "fields" && hasFields(d.Kind):
		return list(shown(d.Fields, args, fieldDirs), n.fieldHandle)
	case field == "interfaces" && hasFields(d.Kind):
		return list(d.Ifaces, ifaceHandle)
	case field == "possibleTypes" && isAbstract(d.Kind):
		return list(n.types.Possible(n.name), namedHandle)
	case field == "enumValues" && d.Kind == api.SysEnum:
		return list(shown(d.Values, args, valueDirs), n.valueHandle)
	case field == "inputFields" && d.Kind == api.SysInput:
		return list(d.Inputs, n.inputHandle)
	}
	return api.Value{}
}

func (n namedType) fieldHandle(d api.FieldDef) api.Value {
	return newHandle(fieldType, n.name+"."+d.Name)
}

func (n namedType) valueHandle(d api.ValueDef) api.Value {
	return newHandle(enumValueType, n.name+"."+d.Name)
}

func (n namedType) inputHandle(d api.InputDef) api.Value {
	return newHandle(inputValueType, n.name+"."+d.Name)
}

func ifaceHandle(iface api.Named) api.Value {
	return namedHandle(iface.Name)
}

func hasFields(kind api.SysKind) bool {
	return kind == api.SysObject || kind == api.SysInterface
}

func isAbstract(kind api.SysKind) bool {
	return kind == api.SysInterface || kind == api.SysUnion
}

func kindName(kind api.SysKind) string {
	switch kind {
	case api.SysObject:
		return "OBJECT"
	case api.SysInterface:
		return "INTERFACE"
	case api.SysUnion:
		return "UNION"
	case api.SysEnum:
		return "ENUM"
	case api.SysInput:
		return "INPUT_OBJECT"
	}
	return "SCALAR"
}

// specifiedBy is the address that a scalar's directives give it, or null.
func specifiedBy(dirs []api.Dir) api.Value {
	url, _, has := argumentOf(dirs, "specifiedBy", "url")
	if !has {
		return api.Value{}
	}
	return text(url.Text)
}
