package query

import "pergola/api"

// definition takes an operation or a fragment, told apart by the first token.
func (p parser) definition() (api.Def, bool) {
	pos := p.Token().Pos
	if p.IsPunct("{") {
		sels, ok := p.selections()
		return api.Def{Kind: api.DefQuery, Short: true, Sels: sels, Pos: pos}, ok
	}
	word, _ := p.WantWord("query", "mutation", "subscription", "fragment")
	switch word.Name {
	case "query":
		return p.operation(api.DefQuery, pos)
	case "mutation":
		return p.operation(api.DefMutation, pos)
	case "subscription":
		return p.operation(api.DefSubscription, pos)
	case "fragment":
		return p.fragment(pos)
	}
	return api.Def{}, false // the cursor has refused what stands there
}

// operation takes what stands behind an operation's keyword.
func (p parser) operation(kind api.DefKind, pos api.Pos) (api.Def, bool) {
	def := api.Def{Kind: kind, Pos: pos}
	if p.Token().Kind == api.TokName {
		name, _ := p.Name()
		def.Name = name.Name
	}
	if p.IsPunct("(") {
		def.Vars, _ = bracketed(p, "(", ")", p.variable)
	}
	return p.body(def)
}

// fragment takes what stands behind the word fragment.
func (p parser) fragment(pos api.Pos) (api.Def, bool) {
	name, _ := p.Name("on")
	p.WantWord("on")
	on, _ := p.Name()
	return p.body(api.Def{Kind: api.DefFragment, Name: name.Name, On: on.Name, Pos: pos})
}

// body takes a definition's end, which all with a keyword have alike.
func (p parser) body(def api.Def) (api.Def, bool) {
	var ok bool
	def.Dirs, _ = p.Dirs(false)
	def.Sels, ok = p.selections() // of a cursor that anything ahead stopped: false
	return def, ok
}

func (p parser) variable() (api.VarDef, bool) {
	def := api.VarDef{Pos: p.Token().Pos}
	p.Want("$")
	name, _ := p.Name()
	def.Name = name.Name
	p.Want(":")
	def.Type, _ = p.Type()
	if p.Punct("=") {
		def.HasDefault = true
		def.Default, _ = p.Lit(true)
	}
	var ok bool
	def.Dirs, ok = p.Dirs(true) // of a cursor that anything ahead stopped: false
	return def, ok
}
