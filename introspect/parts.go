package introspect

import (
	"pergola/api"
	"pergola/printer"
)

// typeField is a field of an object or interface type.
type typeField struct {
	owner string
	def   api.FieldDef
}

func (f typeField) answer(field string, _ []api.Member) api.Value {
	switch field {
	case "name":
		return text(f.def.Name)
	case "description":
		return description(f.def.Note)
	case "args":
		return list(f.def.Args, f.argHandle)
	case "type":
		return typeHandle(f.def.Type)
	case "isDeprecated":
		return truth(isDeprecated(f.def.Dirs))
	case "deprecationReason":
		return deprecationReason(f.def.Dirs)
	}
	return api.Value{}
}

func (f typeField) argHandle(d api.InputDef) api.Value {
	return argHandle(f.owner+"."+f.def.Name, d)
}

// argHandle is the handle of an argument; owner is the own name of the handle of what has it.
func argHandle(owner string, d api.InputDef) api.Value {
	return newHandle(inputValueType, owner+"("+d.Name+")")
}

// inputValue is an argument or an input field.
type inputValue struct {
	def api.InputDef
}

func (i inputValue) answer(field string, _ []api.Member) api.Value {
	switch field {
	case "name":
		return text(i.def.Name)
	case "description":
		return description(i.def.Note)
	case "type":
		return typeHandle(i.def.Type)
	case "defaultValue":
		return i.preset()
	}
	return api.Value{}
}

// preset is the default's text, or null; a default that is null has the text null.
func (i inputValue) preset() api.Value {
	if !i.def.HasDefault {
		return api.Value{}
	}
	return text(printer.Lit(i.def.Default))
}

// enumValue is a value of an enum type.
type enumValue struct {
	def api.ValueDef
}

func (e enumValue) answer(field string, _ []api.Member) api.Value {
	switch field {
	case "name":
		return text(e.def.Name)
	case "description":
		return description(e.def.Note)
	case "isDeprecated":
		return truth(isDeprecated(e.def.Dirs))
	case "deprecationReason":
		return deprecationReason(e.def.Dirs)
	}
	return api.Value{}
}

// directive is a directive's definition.
type directive struct {
	def api.SysDef
}

func (d directive) answer(field string, _ []api.Member) api.Value {
	switch field {
	case "name":
		return text(d.def.Name)
	case "description":
		return description(d.def.Note)
	case "locations":
		return list(d.def.Places, placeName)
	case "args":
		return list(d.def.Inputs, d.argHandle)
	case "isRepeatable":
		return truth(d.def.Repeatable)
	}
	return api.Value{}
}

func (d directive) argHandle(arg api.InputDef) api.Value {
	return argHandle("@"+d.def.Name, arg)
}

func placeName(place api.Named) api.Value {
	return text(place.Name)
}

func directiveHandle(name string) api.Value {
	return newHandle(directiveType, "@"+name)
}
