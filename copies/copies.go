// Package copies makes deep copies of what sources are read as: a copy has every field of what it was made of, and no list of it shares memory with another.
package copies

import "pergola/api"

// List is a list of the copies of a list's elements.
func List[T any](from []T, one func(T) T) []T {
	if len(from) == 0 {
		return nil
	}
	to := make([]T, len(from))
	for i, element := range from {
		to[i] = one(element)
	}
	return to
}

// Flat is a copy of a list whose elements hold no lists.
func Flat[T any](from []T) []T {
	return List(from, func(element T) T { return element })
}

// Lit is a copy of a literal.
func Lit(l api.Lit) api.Lit {
	l.Items = List(l.Items, Lit)
	l.Fields = List(l.Fields, litField)
	return l
}

func litField(f api.LitField) api.LitField {
	f.Value = Lit(f.Value)
	return f
}

// Arg is a copy of an argument.
func Arg(a api.Arg) api.Arg {
	a.Value = Lit(a.Value)
	return a
}

// Dir is a copy of a directive's use.
func Dir(d api.Dir) api.Dir {
	d.Args = List(d.Args, Arg)
	return d
}

// Input is a copy of an argument's or an input field's definition.
func Input(d api.InputDef) api.InputDef {
	d.Default = Lit(d.Default)
	d.Dirs = List(d.Dirs, Dir)
	return d
}

// Field is a copy of a field's definition.
func Field(d api.FieldDef) api.FieldDef {
	d.Args = List(d.Args, Input)
	d.Dirs = List(d.Dirs, Dir)
	return d
}

// EnumValue is a copy of an enum value's definition.
func EnumValue(d api.ValueDef) api.ValueDef {
	d.Dirs = List(d.Dirs, Dir)
	return d
}

// Sys is a copy of a type-system definition.
func Sys(d api.SysDef) api.SysDef {
	d.Ifaces = Flat(d.Ifaces)
	d.Dirs = List(d.Dirs, Dir)
	d.Fields = List(d.Fields, Field)
	d.Inputs = List(d.Inputs, Input)
	d.Members = Flat(d.Members)
	d.Values = List(d.Values, EnumValue)
	d.Roots = Flat(d.Roots)
	d.Places = Flat(d.Places)
	return d
}

// Document is a copy of an executable document.
func Document(d api.Document) api.Document {
	d.Defs = List(d.Defs, def)
	return d
}

func def(d api.Def) api.Def {
	d.Vars = List(d.Vars, variable)
	d.Dirs = List(d.Dirs, Dir)
	d.Sels = List(d.Sels, selection)
	return d
}

func variable(d api.VarDef) api.VarDef {
	d.Default = Lit(d.Default)
	d.Dirs = List(d.Dirs, Dir)
	return d
}

func selection(s api.Sel) api.Sel {
	s.Args = List(s.Args, Arg)
	s.Dirs = List(s.Dirs, Dir)
	s.Sels = List(s.Sels, selection)
	return s
}
