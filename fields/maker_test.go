package fields_test

import (
	"math/rand"
	"strings"

	"pergola/api"
	"pergola/printer"
	"pergola/typesys"
)

// maker writes documents for a type system by chance. One choice in slip goes wrong on purpose.
type maker struct {
	r     *rand.Rand
	types *typesys.Types
	slip  int
	room  int // how many selections may still be made
}

func (m *maker) slips() bool { return m.r.Intn(m.slip) == 0 }

func (m *maker) chance(one int) bool { return m.r.Intn(one) == 0 }

func (m *maker) oneOf(words ...string) string { return words[m.r.Intn(len(words))] }

func (m *maker) kind(name string) api.SysKind {
	def, _ := m.types.Type(name)
	return def.Kind
}

// literal is one that fits the type, if nothing slips.
func (m *maker) literal(want api.TypeRef, depth int, constant bool) string {
	if !constant && m.chance(6) {
		return "$v"
	}
	if m.slips() || depth == 0 {
		return m.oneOf("1", "null", `"s"`, "A", "1.5", "[null]", "{}", "{k: 1 k: {l: 1 l: 2}}", "true", "1e999")
	}
	if rest, ok := typesys.Bare(want); ok {
		return m.literal(rest, depth, true)
	}
	if m.chance(8) {
		return "null"
	}
	if item, ok := typesys.Item(want); ok {
		if m.chance(4) {
			return "[]"
		}
		return "[" + m.literal(item, depth-1, constant) + " " + m.literal(item, depth-1, constant) + "]"
	}
	return m.named(want.Name, depth, constant)
}

func (m *maker) named(name string, depth int, constant bool) string {
	def, _ := m.types.Type(name)
	switch {
	case def.Kind == api.SysInput:
		return "{" + m.inputs(def.Inputs, depth-1, constant) + "}"
	case def.Kind == api.SysEnum:
		return def.Values[m.r.Intn(len(def.Values))].Name
	case name == "Boolean":
		return "true"
	case name == "String":
		return `"s"`
	}
	return "7"
}

// inputs are arguments or an object's fields, the required ones among them.
func (m *maker) inputs(defs []api.InputDef, depth int, constant bool) string {
	var out []string
	add := func(name string, want api.TypeRef) {
		out = append(out, name+": "+m.literal(want, max(depth, 0), constant))
	}
	for _, def := range defs {
		_, isMarked := typesys.Bare(def.Type)
		if isMarked && !def.HasDefault && !m.slips() || m.chance(3) && depth > 0 {
			add(def.Name, def.Type)
		}
		if m.slips() {
			add(def.Name, def.Type)
		}
	}
	if m.slips() {
		add(m.oneOf("nope", "x", "c"), api.TypeRef{})
	}
	m.r.Shuffle(len(out), func(i, k int) { out[i], out[k] = out[k], out[i] })
	return strings.Join(out, " ")
}

func (m *maker) args(defs []api.InputDef, constant bool) string {
	if inner := m.inputs(defs, 4, constant); inner != "" {
		return "(" + inner + ")"
	}
	return ""
}

// dirs are directives at a place.
func (m *maker) dirs(own string, constant bool) string {
	out := ""
	for m.chance(5) {
		name := m.oneOf(own, "all", "many", "many")
		if m.slips() {
			name = m.oneOf("nope", "field", "query", "skip", "system", "d", "r", own)
		}
		def, _ := m.types.Directive(name)
		out += " @" + name + m.args(def.Inputs, constant)
	}
	return out + " "
}

func (m *maker) selections(in string) string {
	out := ""
	for out == "" || m.chance(2) {
		out += m.selection(in) + " "
	}
	return "{" + out + "}"
}

func (m *maker) selection(in string) string {
	m.room--
	switch {
	case m.chance(6) || m.room <= 0 && m.chance(3):
		return "..." + m.oneOf("F", "G", "H", "F", "G", "H", "Nope") + m.dirs("spread", false)
	case m.chance(6) && m.room > 0:
		return "..." + m.dirs("inline", false) + m.selections(in)
	case m.chance(6) && m.room > 0:
		on := m.oneOf(m.types.Names()...)
		return "... on " + on + m.dirs("inline", false) + m.selections(on)
	}
	return m.field(in)
}

func (m *maker) field(in string) string {
	def, _ := m.types.Type(in)
	name := "__typename"
	if len(def.Fields) > 0 && !m.chance(10) {
		name = def.Fields[m.r.Intn(len(def.Fields))].Name
	}
	if m.slips() {
		name = m.oneOf("nope", "__schema", "__type", "a", "n", "__")
	}
	known, _ := m.types.Field(in, name)
	out := m.oneOf("", "", "", "k: ", "e: ", "__k: ") + name + m.args(known.Args, false) + m.dirs("field", false)
	inner := known.Type.Name
	isLeaf := m.kind(inner) == api.SysScalar || m.kind(inner) == api.SysEnum
	switch {
	case isLeaf != m.slips():
		return out
	case m.room <= 0:
		return out + "{__typename}"
	}
	return out + m.selections(inner)
}

func (m *maker) variables() string {
	if m.chance(2) {
		return ""
	}
	out := ""
	for out == "" || m.chance(3) {
		typ := api.TypeRef{Name: m.oneOf(m.types.Names()...), Wrap: m.oneOf("", "!", "]", "!]!")}
		out += "$" + m.oneOf("v", "w") + ": " + printer.Type(typ)
		if m.chance(2) {
			out += " = " + m.literal(typ, 4, true)
		}
		out += m.dirs("variable", true)
	}
	return "(" + out + ")"
}

func (m *maker) operation() string {
	kind := m.r.Intn(3)
	words := []string{"query", "mutation", "subscription"}
	name := m.oneOf("A", "B", "C", "D", "E", "F")
	if m.slips() {
		name = ""
	}
	return words[kind] + " " + name + m.variables() + m.dirs(words[kind], false) + m.selections(m.types.Root(api.DefKind(kind+1)))
}

// subscription is one whose top fields are mostly of one key.
func (m *maker) subscription() string {
	out := ""
	for out == "" || m.chance(2) {
		out += m.topPiece()
	}
	return out
}

func (m *maker) topPiece() string {
	switch {
	case m.slips():
		return m.oneOf("k: __typename ", "e {e} ", "l: e ", "k: t(x: 1) {a} ")
	case m.chance(3):
		return "..." + m.oneOf("F", "G", "H", "Nope") + " "
	case m.chance(4):
		return m.oneOf("... {", "... on Feed {", "... @skip(if: true) {") + m.subscription() + "} "
	}
	return m.oneOf("k: t(x: 1) ", "k: o {a e} ")
}

// document is the text of a document.
func (m *maker) document() string {
	var out []string
	for range 1 + m.r.Intn(2) {
		m.room = 1 + m.r.Intn(10)
		if m.chance(3) {
			out = append(out, "subscription "+m.oneOf("S", "T", "A")+" {"+m.subscription()+"}")
		} else {
			out = append(out, m.operation())
		}
	}
	for _, name := range []string{"F", "G", "H", "F"} {
		if m.chance(2) {
			continue
		}
		m.room = 1 + m.r.Intn(6)
		if m.chance(2) {
			out = append(out, "fragment "+name+" on Feed {"+m.subscription()+"}")
		} else {
			on := m.oneOf(m.types.Names()...)
			out = append(out, "fragment "+name+" on "+on+m.dirs("fragment", false)+m.selections(on))
		}
	}
	if m.chance(8) {
		m.room = 3
		out = append(out, m.selections(m.types.Root(api.DefQuery)))
	}
	m.r.Shuffle(len(out), func(i, k int) { out[i], out[k] = out[k], out[i] })
	return strings.Join(out, "\n")
}
