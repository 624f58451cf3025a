package printer

import "pergola/api"

func definition(d api.Def) piece {
	switch {
	case d.Kind == api.DefFragment:
		return row{word("fragment " + d.Name + " on " + d.On), directives(d.Dirs), selections(d.Sels)}
	case d.Kind == api.DefQuery && d.Short:
		return braced("", each(d.Sels, selection))
	}
	return row{
		word(operation(d.Kind) + ifNamed(" ", d.Name, "")),
		rounded(each(d.Vars, variable)),
		directives(d.Dirs),
		selections(d.Sels),
	}
}

func variable(v api.VarDef) piece {
	return row{word("$" + v.Name + ": "), reference(v.Type), defaulted(v.HasDefault, v.Default), directives(v.Dirs)}
}

func selections(sels []api.Sel) piece {
	return braced(" ", each(sels, selection))
}

func selection(s api.Sel) piece {
	switch s.Kind {
	case api.SelField:
		return row{word(ifNamed("", s.Alias, ": ") + s.Name), rounded(each(s.Args, argument)), directives(s.Dirs), selections(s.Sels)}
	case api.SelSpread:
		return row{word("..." + s.Name), directives(s.Dirs)}
	case api.SelInline:
		return row{word("..." + ifNamed(" on ", s.On, "")), directives(s.Dirs), selections(s.Sels)}
	}
	return row{} // no source gives another kind
}

// ifNamed is a name with what stands around it, but nothing if there is no name.
func ifNamed(ahead, name, behind string) string {
	if name == "" {
		return ""
	}
	return ahead + name + behind
}
