package query

import "pergola/api"

// selections takes a selection set.
func (p parser) selections() ([]api.Sel, bool) {
	return bracketed(p, "{", "}", p.selection)
}

func (p parser) selection() (api.Sel, bool) {
	pos := p.Token().Pos
	if !p.Punct("...") {
		return p.field(pos)
	}
	if p.Token().Kind == api.TokName && !p.IsWord("on") {
		return p.spread(pos)
	}
	return p.inline(pos)
}

// field takes a field; the first of its names is the alias just if a colon follows.
func (p parser) field(pos api.Pos) (api.Sel, bool) {
	sel := api.Sel{Kind: api.SelField, Pos: pos}
	name, _ := p.Name()
	if p.Punct(":") {
		sel.Alias = name.Name
		name, _ = p.Name()
	}
	sel.Name = name.Name
	sel.Args, _ = p.Args(false)
	var ok bool
	sel.Dirs, ok = p.Dirs(false) // of a cursor that anything ahead stopped: false
	if p.IsPunct("{") {
		sel.Sels, ok = p.selections()
	}
	return sel, ok
}

// spread takes what stands behind a spread's dots.
func (p parser) spread(pos api.Pos) (api.Sel, bool) {
	name, _ := p.Name("on")
	dirs, ok := p.Dirs(false)
	return api.Sel{Kind: api.SelSpread, Name: name.Name, Dirs: dirs, Pos: pos}, ok
}

// inline takes what stands behind an inline fragment's dots.
func (p parser) inline(pos api.Pos) (api.Sel, bool) {
	sel := api.Sel{Kind: api.SelInline, Pos: pos}
	if p.Word("on") {
		on, _ := p.Name()
		sel.On = on.Name
	}
	var ok bool
	sel.Dirs, _ = p.Dirs(false)
	sel.Sels, ok = p.selections() // of a cursor that the type's name or a directive stopped: false
	return sel, ok
}
