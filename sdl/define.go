package sdl

import "pergola/api"

// keyword is a word by which a definition is known; read takes what stands behind it.
type keyword struct {
	word string
	kind api.SysKind
	read func(parser, *api.SysDef)
}

func keywords() []keyword {
	return []keyword{
		{"schema", api.SysSchema, parser.schema},
		{"scalar", api.SysScalar, parser.scalar},
		{"type", api.SysObject, parser.object},
		{"interface", api.SysInterface, parser.object},
		{"union", api.SysUnion, parser.union},
		{"enum", api.SysEnum, parser.enum},
		{"input", api.SysInput, parser.input},
		{"directive", api.SysDirective, parser.directive},
	}
}

// definition takes a definition or an extension.
func (p parser) definition() api.SysDef {
	var def api.SysDef
	def.Note, _ = p.Note()
	def.Extend = !def.Note.Has && p.Word("extend")
	p.keyed(&def)
	if def.Extend && bare(def) {
		p.Refuse()
	}
	return def
}

// keyed takes a keyword and what stands behind it.
func (p parser) keyed(def *api.SysDef) {
	for _, key := range keywords() {
		if def.Extend && key.kind == api.SysDirective {
			continue // of all kinds this one can't be extended
		}
		pos := p.Token().Pos
		if p.Word(key.word) {
			def.Kind, def.Pos = key.kind, pos // a schema's place is its word's; what has a name puts its own here
			key.read(p, def)
			return
		}
	}
	p.Refuse()
}

// bare is whether a definition has none of the parts of which an extension needs one.
func bare(def api.SysDef) bool {
	return len(def.Ifaces)+len(def.Dirs)+len(def.Fields)+len(def.Inputs)+len(def.Members)+len(def.Values)+len(def.Roots) == 0
}

func (p parser) schema(def *api.SysDef) {
	def.Dirs, _ = p.Dirs(true)
	if !def.Extend || p.IsPunct("{") {
		def.Roots = bracketed(p, "{", "}", p.root)
	}
}

func (p parser) scalar(def *api.SysDef) {
	p.named(def)
	def.Dirs, _ = p.Dirs(true)
}

// object takes an object type or an interface: both are written alike.
func (p parser) object(def *api.SysDef) {
	p.named(def)
	if p.Word("implements") {
		def.Ifaces = p.parted("&", p.name)
	}
	def.Dirs, _ = p.Dirs(true)
	def.Fields = optional(p, "{", "}", p.field)
}

func (p parser) union(def *api.SysDef) {
	p.named(def)
	def.Dirs, _ = p.Dirs(true)
	if p.Punct("=") {
		def.Members = p.parted("|", p.name)
	}
}

func (p parser) enum(def *api.SysDef) {
	p.named(def)
	def.Dirs, _ = p.Dirs(true)
	def.Values = optional(p, "{", "}", p.choice)
}

func (p parser) input(def *api.SysDef) {
	p.named(def)
	def.Dirs, _ = p.Dirs(true)
	def.Inputs = optional(p, "{", "}", p.value)
}

func (p parser) directive(def *api.SysDef) {
	p.Want("@")
	p.named(def)
	def.Inputs = optional(p, "(", ")", p.value)
	def.Repeatable = p.Word("repeatable")
	p.WantWord("on")
	def.Places = p.parted("|", p.place)
}

// named takes a definition's name.
func (p parser) named(def *api.SysDef) {
	name := p.name()
	def.Name, def.Pos = name.Name, name.Pos
}
