package overlap_test

import (
	"math/rand"
	"strings"

	"pergola/api"
	"pergola/typesys"
)

// maker writes documents for a type system by chance, in which few keys stand for many fields.
type maker struct {
	r     *rand.Rand
	types *typesys.Types
	wild  int // one choice in so many goes its own way
	room  int // how many selections may still be made
	frags []string
}

func (m *maker) chance(one int) bool { return m.r.Intn(one) == 0 }

func (m *maker) oneOf(words ...string) string { return words[m.r.Intn(len(words))] }

// args are arguments, known or not, most of them the same as others'.
func (m *maker) args() string {
	if !m.chance(m.wild) {
		return ""
	}
	return m.oneOf("(k: 1)", "(k: 2)", "(i: 1 k: 1)", "(k: 1 i: 1)", "(k: 1 k: 1)", "(k: 1 k: 2)", "(k: 2 k: 1)", "(k: 1 k: 1 k: 2)", "(k: 1 k: 2 k: 2)", "(k: $v)", `(k: "1")`, `(k: """1""")`, "(j: {a: 1 b: {}})", "(j: {b: {} a: 1})", "(j: {a: 1 a: 1})", "(k: [1 2])", "(k: [2 1])", "(k: null)", "(k: A)", "(k: $A)")
}

func (m *maker) selections(in string) string {
	out := ""
	for out == "" || m.chance(2) {
		out += m.selection(in) + " "
	}
	return "{" + out + "}"
}

func (m *maker) selection(in string) string {
	m.room--
	switch {
	case m.chance(4):
		return "..." + m.oneOf(m.frags...)
	case m.chance(4) && m.room > 0:
		return m.inline(in)
	case m.chance(8) && m.room > 0:
		return m.apart() + m.apart()
	}
	return m.field(in)
}

// apart is a field with braces in an object type, which may not meet its like in another one.
func (m *maker) apart() string {
	for {
		def, _ := m.types.Type(m.oneOf(m.types.Names()...))
		if def.Kind != api.SysObject || strings.HasPrefix(def.Name, "__") {
			continue
		}
		f := def.Fields[m.r.Intn(len(def.Fields))]
		if inner, _ := m.types.Type(f.Type.Name); len(inner.Fields) > 0 {
			return "... on " + def.Name + " {k: " + f.Name + m.selections(inner.Name) + "} "
		}
	}
}

// inline is an inline fragment, mostly on a type that has fields.
func (m *maker) inline(in string) string {
	if m.chance(3) {
		return "... " + m.selections(in)
	}
	names := m.types.Names()
	for {
		on := m.oneOf(names...)
		if strings.HasPrefix(on, "__") {
			continue
		}
		if def, _ := m.types.Type(on); len(def.Fields) > 0 || m.chance(3) {
			return "... on " + on + " " + m.selections(on)
		}
	}
}

func (m *maker) field(in string) string {
	def, _ := m.types.Type(in)
	name := "__typename"
	if len(def.Fields) > 0 {
		// The first ones more often than the others.
		name = def.Fields[min(m.r.Intn(len(def.Fields)), m.r.Intn(len(def.Fields)))].Name
	}
	if m.chance(4 * m.wild) {
		name = m.oneOf("nope", "n", "x", "o")
	}
	known, _ := m.types.Field(in, name)
	alias := ""
	if m.chance(2 + m.wild) {
		alias = m.oneOf("k: ", "n: ", "o: ", "x: ")
	}
	out := alias + name + m.args()
	inner := known.Type.Name
	kind, _ := m.types.Type(inner)
	isLeaf := kind.Kind == api.SysScalar || kind.Kind == api.SysEnum
	if isLeaf != m.chance(8*m.wild) || m.room <= 0 {
		return out
	}
	return out + m.selections(inner)
}

// document is the text of a document.
func (m *maker) document() string {
	m.frags = []string{"A", "B", "C", "D", "Nope"}[:1+m.r.Intn(5)]
	var out []string
	for _, kind := range []string{"query", "query", "mutation"}[:1+m.r.Intn(3)] {
		m.room = 1 + m.r.Intn(8)
		root := api.DefQuery
		if kind == "mutation" {
			root = api.DefMutation
		}
		out = append(out, kind+" Q"+m.selections(m.types.Root(root)))
	}
	for _, name := range []string{"A", "B", "C", "D", "A"} {
		if m.chance(3) {
			continue
		}
		m.room = 1 + m.r.Intn(5)
		on := m.oneOf("Root", "Root", "N", "O", "U", "Nope", "I", "Query")
		out = append(out, "fragment "+name+" on "+on+" "+m.selections(on))
	}
	m.r.Shuffle(len(out), func(i, k int) { out[i], out[k] = out[k], out[i] })
	return strings.Join(out, "\n")
}
