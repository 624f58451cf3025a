package sdl

import "pergola/api"

func (p parser) name() api.Named {
	name, _ := p.Name()
	return name
}

// place takes the name of a place at which a directive may stand.
func (p parser) place() api.Named {
	name, _ := p.WantWord(
		"QUERY", "MUTATION", "SUBSCRIPTION", "FIELD", "FRAGMENT_DEFINITION", "FRAGMENT_SPREAD", "INLINE_FRAGMENT", "VARIABLE_DEFINITION",
		"SCHEMA", "SCALAR", "OBJECT", "FIELD_DEFINITION", "ARGUMENT_DEFINITION", "INTERFACE", "UNION", "ENUM", "ENUM_VALUE", "INPUT_OBJECT", "INPUT_FIELD_DEFINITION",
	)
	return name
}

// root takes the naming of a root operation's type.
func (p parser) root() api.RootDef {
	word, _ := p.WantWord("query", "mutation", "subscription")
	p.Want(":")
	return api.RootDef{Op: operation(word.Name), Type: p.name().Name, Pos: word.Pos}
}

func operation(word string) api.DefKind {
	switch word {
	case "mutation":
		return api.DefMutation
	case "subscription":
		return api.DefSubscription
	}
	return api.DefQuery
}

func (p parser) field() api.FieldDef {
	note, _ := p.Note()
	name := p.name()
	def := api.FieldDef{Note: note, Name: name.Name, Pos: name.Pos}
	def.Args = optional(p, "(", ")", p.value)
	p.Want(":")
	def.Type, _ = p.Type()
	def.Dirs, _ = p.Dirs(true)
	return def
}

// value takes an argument or a field of an input type: both are written alike.
func (p parser) value() api.InputDef {
	note, _ := p.Note()
	name := p.name()
	def := api.InputDef{Note: note, Name: name.Name, Pos: name.Pos}
	p.Want(":")
	def.Type, _ = p.Type()
	if def.HasDefault = p.Punct("="); def.HasDefault {
		def.Default, _ = p.Lit(true)
	}
	def.Dirs, _ = p.Dirs(true)
	return def
}

// choice takes a case of an enum; the words of other literals are none.
func (p parser) choice() api.ValueDef {
	note, _ := p.Note()
	name, _ := p.Name("true", "false", "null")
	dirs, _ := p.Dirs(true)
	return api.ValueDef{Note: note, Name: name.Name, Dirs: dirs, Pos: name.Pos}
}
