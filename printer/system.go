package printer

import "pergola/api"

func systemDefinition(d api.SysDef) piece {
	extend := ""
	if d.Extend {
		extend = "extend "
	}
	return noted(d.Note, line{}, row{word(extend), keyed(d)})
}

// keyed is a definition from its keyword on.
func keyed(d api.SysDef) piece {
	dirs := directives(d.Dirs)
	switch d.Kind {
	case api.SysSchema:
		return row{word("schema"), dirs, braced(" ", each(d.Roots, root))}
	case api.SysScalar:
		return row{word("scalar " + d.Name), dirs}
	case api.SysObject:
		return row{word("type " + d.Name), implements(d.Ifaces), dirs, braced(" ", each(d.Fields, field))}
	case api.SysInterface:
		return row{word("interface " + d.Name), implements(d.Ifaces), dirs, braced(" ", each(d.Fields, field))}
	case api.SysUnion:
		return row{word("union " + d.Name), dirs, ifAny(each(d.Members, name), " = ", " | ", "")}
	case api.SysEnum:
		return row{word("enum " + d.Name), dirs, braced(" ", each(d.Values, enumValue))}
	case api.SysInput:
		return row{word("input " + d.Name), dirs, braced(" ", each(d.Inputs, inputField))}
	case api.SysDirective:
		return directiveDefinition(d)
	}
	return row{} // no source gives another kind
}

func directiveDefinition(d api.SysDef) piece {
	repeatable := ""
	if d.Repeatable {
		repeatable = " repeatable"
	}
	return row{
		word("directive @" + d.Name),
		rounded(each(d.Inputs, inputArgument)),
		word(repeatable),
		listed{each(d.Places, name), " on ", " | ", ""},
	}
}

func implements(ifaces []api.Named) piece {
	return ifAny(each(ifaces, name), " implements ", " & ", "")
}

func name(n api.Named) piece {
	return word(n.Name)
}

func root(r api.RootDef) piece {
	return word(operation(r.Op) + ": " + r.Type)
}

func field(d api.FieldDef) piece {
	return noted(d.Note, line{}, row{
		word(d.Name),
		rounded(each(d.Args, inputArgument)),
		word(": "),
		reference(d.Type),
		directives(d.Dirs),
	})
}

func enumValue(d api.ValueDef) piece {
	return noted(d.Note, line{}, row{word(d.Name), directives(d.Dirs)})
}

// inputField is an input in braces, inputArgument one in round brackets: they differ in what parts them from their note.
func inputField(d api.InputDef) piece {
	return noted(d.Note, line{}, input(d))
}

func inputArgument(d api.InputDef) piece {
	return noted(d.Note, word(" "), input(d))
}

func input(d api.InputDef) piece {
	return row{word(d.Name + ": "), reference(d.Type), defaulted(d.HasDefault, d.Default), directives(d.Dirs)}
}

// noted is a piece with its note ahead of it, if there is one, and gap between the two.
func noted(note api.Note, gap, what piece) piece {
	if !note.Has {
		return what
	}
	return row{quote{note.Block, note.Text}, gap, what}
}
