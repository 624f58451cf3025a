package scope_test

import (
	"math/rand"
	"strconv"
	"strings"

	"pergola/api"
	"pergola/printer"
	"pergola/typesys"
)

// maker writes sound type systems, and documents for them, by chance.
type maker struct {
	r      *rand.Rand
	shared []string // the field of each interface, as those that implement it write it
	types  *typesys.Types
	room   int // how many selections may still be made
}

func (m *maker) chance(one int) bool { return m.r.Intn(one) == 0 }

func (m *maker) oneOf(words string) string {
	list := strings.Fields(words)
	return list[m.r.Intn(len(list))]
}

func (m *maker) wrapped(name string) string {
	for m.chance(3) {
		name = "[" + name + m.oneOf("] !] ]")
	}
	return name
}

// input is an argument or an input field; a default fits.
func (m *maker) input(name string) string {
	kind := m.oneOf("Int ID Boolean E S S P0 P1 P2 P0 P1 P2")
	typ := m.wrapped(kind)
	isList := strings.HasPrefix(typ, "[")
	if m.chance(3) && (isList || kind[0] != 'P') { // else an input type might need itself
		typ += "!"
	}
	switch {
	case isList && m.chance(3):
		return name + ": " + typ + " = []"
	case !strings.HasSuffix(typ, "!") && m.chance(3):
		return name + ": " + typ + " = null"
	case kind == "S" && m.chance(3):
		return name + ": " + typ + " = 1"
	}
	return name + ": " + typ
}

func (m *maker) inputs() string {
	out := ""
	for i := range 1 + m.r.Intn(3) {
		out += m.input("a"+strconv.Itoa(i)) + " "
	}
	return out
}

func (m *maker) field(name string) string {
	if m.chance(2) {
		name += "(" + m.inputs() + ")"
	}
	return name + ": " + m.wrapped(m.oneOf("O0 O1 O2 N0 N1 U0 U1 E S Int __Type O0 N1 U0"))
}

func (m *maker) object(name string) string {
	ifaces, fields := "", ""
	for i, field := range m.shared {
		if m.chance(2) {
			ifaces += " & N" + strconv.Itoa(i)
			fields += field + " "
		}
	}
	if ifaces != "" {
		ifaces = " implements" + ifaces
	}
	for i := range 1 + m.r.Intn(4) {
		fields += m.field("f"+strconv.Itoa(i)) + " "
	}
	return "type " + name + ifaces + " {" + fields + "} extend type " + name + " {" + m.field("x") + "} "
}

// system is the text of a sound type system.
func (m *maker) system() string {
	m.shared = []string{m.field("n0"), m.field("n1")}
	out := "schema {query: O0" + []string{"", " mutation: O1", " mutation: O2 subscription: O1"}[m.r.Intn(3)] + "} "
	for i := range 3 {
		number := strconv.Itoa(i)
		out += m.object("O"+number) + "input P" + number + " {" + m.inputs() + "} extend input P" + number + " {" + m.input("b") + "} "
		out += "directive @d" + number + "(" + m.inputs() + ")" + " on " + m.oneOf("FIELD QUERY|FIELD FRAGMENT_SPREAD VARIABLE_DEFINITION|MUTATION") + " "
	}
	for i, field := range m.shared {
		out += "interface N" + strconv.Itoa(i) + " {" + field + "} "
	}
	return out + "union U0 = O0 | O1 union U1 = O2 enum E {A B} scalar S"
}

// literal is the text of a literal for a type, mostly a fitting one; zero is no type.
func (m *maker) literal(r api.TypeRef, depth int, constant bool) string {
	if !constant && m.chance(4) {
		return "$" + m.oneOf("v w x")
	}
	if depth == 0 || m.chance(15) {
		return m.oneOf(`1 null "s" A 1.5 [] {} true`)
	}
	if item, ok := typesys.Item(r); ok && !m.chance(4) {
		return m.list(item, depth, constant)
	}
	def, _ := m.types.Type(r.Name)
	switch {
	case def.Kind == api.SysInput && !m.chance(8):
		return m.objectLit(def.Inputs, depth, constant)
	case m.chance(3):
		return m.objectLit([]api.InputDef{{Name: "a0"}, {Name: "b"}}, depth, constant)
	case m.chance(2):
		return m.list(api.TypeRef{}, depth, constant)
	}
	return m.oneOf("1 A 2.5")
}

func (m *maker) list(item api.TypeRef, depth int, constant bool) string {
	out := ""
	for m.chance(2) {
		out += m.literal(item, depth-1, constant) + " "
	}
	return "[" + out + "]"
}

func (m *maker) objectLit(fields []api.InputDef, depth int, constant bool) string {
	out := ""
	for m.chance(2) || out == "" {
		field := fields[m.r.Intn(len(fields))]
		if m.chance(10) {
			field = api.InputDef{Name: m.oneOf("a0 a1 b nope")}
		}
		out += field.Name + ": " + m.literal(field.Type, depth-1, constant) + " "
	}
	return "{" + out + "}"
}

func (m *maker) args(defs []api.InputDef, constant bool) string {
	out := ""
	for _, def := range defs {
		if m.chance(2) {
			out += def.Name + ": " + m.literal(def.Type, 4, constant) + " "
		}
	}
	if m.chance(8) {
		out += m.oneOf("a0 nope if") + ": " + m.literal(api.TypeRef{}, 3, constant)
	}
	if out == "" {
		return ""
	}
	return "(" + out + ")"
}

func (m *maker) dirs(constant bool) string {
	out := ""
	for m.chance(4) {
		name := m.oneOf("d0 d1 d2 skip include nope")
		def, _ := m.types.Directive(name)
		out += " @" + name + m.args(def.Inputs, constant)
	}
	return out + " "
}

func (m *maker) selections(parent string) string {
	out := ""
	for m.chance(2) || out == "" {
		m.room--
		out += m.selection(parent) + " "
	}
	return "{" + out + "}"
}

// fieldName is one that the type has, or another.
func (m *maker) fieldName(parent string) string {
	def, _ := m.types.Type(parent)
	if len(def.Fields) == 0 || m.chance(8) {
		return m.oneOf("__typename __schema __type f0 f1 n0 n1 x nope name kind")
	}
	return def.Fields[m.r.Intn(len(def.Fields))].Name
}

func (m *maker) selection(parent string) string {
	switch {
	case m.chance(6):
		return "..." + m.oneOf("F0 F1 F2 F3 nope") + m.dirs(false)
	case m.chance(6) && m.room > 0:
		return "..." + m.dirs(false) + m.selections(parent)
	case m.chance(5) && m.room > 0:
		on := m.oneOf("O0 O1 O2 N0 N1 U0 U1 E S P0 Nope Int __Type")
		return "... on " + on + m.dirs(false) + m.selections(on)
	}
	name := m.fieldName(parent)
	def, _ := m.types.Field(parent, name)
	out := name + m.args(def.Args, false) + m.dirs(false)
	if m.chance(6) {
		out = m.oneOf("k l f0") + ": " + out
	}
	if m.room > 0 && !m.chance(3) {
		out += m.selections(def.Type.Name)
	}
	return out
}

func (m *maker) variables() string {
	out := ""
	for m.chance(2) {
		typ := api.TypeRef{Name: m.oneOf("Int E S P0 P1 O0 U0 Nope"), Wrap: []string{"", "!", "]", "!]!"}[m.r.Intn(4)]}
		out += "$" + m.oneOf("v w x") + ": " + printer.Type(typ)
		if m.chance(2) {
			out += " = " + m.literal(typ, 4, true)
		}
		out += m.dirs(true)
	}
	if out == "" {
		return ""
	}
	return "(" + out + ")"
}

// document is the text of a document for a type system.
func (m *maker) document(types *typesys.Types) string {
	m.types = types
	out := ""
	for i := range 1 + m.r.Intn(5) {
		m.room = 1 + m.r.Intn(12)
		switch kind := m.r.Intn(7); kind {
		case 0, 1, 2:
			words := []string{"query", "mutation", "subscription"}
			out += words[kind] + []string{"", " Q", " F0", " F1"}[m.r.Intn(4)] + m.variables() + m.dirs(false) + m.selections(types.Root(api.DefKind(kind+1)))
		case 3:
			out += m.selections("O0")
		default:
			on := m.oneOf("O0 O1 O2 N0 N1 U0 U1 E P1 Nope __Type")
			out += "fragment F" + strconv.Itoa((i+m.r.Intn(2))%4) + " on " + on + m.dirs(false) + m.selections(on)
		}
		out += "\n"
	}
	return out
}
