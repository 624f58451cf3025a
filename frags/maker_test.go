package frags_test

import (
	"math/rand"
	"slices"
	"strings"

	"pergola/api"
	"pergola/typesys"
)

// maker writes documents for a type system by chance. One choice in slip goes wrong on purpose.
type maker struct {
	r      *rand.Rand
	types  *typesys.Types
	slip   int
	room   int               // how many selections may still be made
	frags  []string          // the fragments' names
	on     map[string]string // of each fragment its type
	number int               // of the fragment that is written; those behind it may be spread without a ring
}

func (m *maker) slips() bool { return m.r.Intn(m.slip) == 0 }

func (m *maker) chance(one int) bool { return m.r.Intn(one) == 0 }

func (m *maker) oneOf(words ...string) string { return words[m.r.Intn(len(words))] }

// composites are the names of the composite types that meet one, of all if that is empty.
func (m *maker) composites(in string) []string {
	return slices.DeleteFunc(m.types.Names(), func(name string) bool {
		return strings.HasPrefix(name, "__") || m.types.Input(name) || in != "" && !m.types.Meet(in, name)
	})
}

// condition is the name of a type that meets the one around it.
func (m *maker) condition(in string) string {
	if m.slips() {
		return m.oneOf("Nope", "E", "S", "In", "Int", "__Type", "__TypeKind")
	}
	names := m.composites(in)
	if m.slips() || len(names) == 0 {
		names = m.composites("")
	}
	return m.oneOf(names...)
}

func (m *maker) selections(in string) string {
	out := ""
	for out == "" || m.chance(2) {
		out += m.selection(in) + " "
	}
	return "{" + out + "}"
}

func (m *maker) selection(in string) string {
	m.room--
	switch {
	case m.chance(3):
		if spread := m.spread(in); spread != "" {
			return spread
		}
	case m.chance(6) && m.room > 0:
		return "... " + m.selections(in)
	case m.chance(4) && m.room > 0:
		on := m.condition(in)
		return "... on " + on + m.selections(on)
	}
	return m.field(in)
}

// spread is one of a fragment that stands behind the one that is written and whose type meets the one around it, if nothing slips.
func (m *maker) spread(in string) string {
	if m.slips() {
		return "..." + m.oneOf("F", "G", "H", "A", "Nope")
	}
	for _, i := range m.r.Perm(len(m.frags)) {
		name := m.frags[i]
		if (i > m.number || m.slips()) && (m.types.Meet(in, m.on[name]) || m.slips()) {
			return "..." + name
		}
	}
	return ""
}

func (m *maker) field(in string) string {
	def, _ := m.types.Type(in)
	name := "__typename"
	if len(def.Fields) > 0 {
		name = def.Fields[m.r.Intn(len(def.Fields))].Name
	}
	if m.slips() {
		name = m.oneOf("nope", "__schema", "n", "x")
	}
	known, _ := m.types.Field(in, name)
	inner, _ := m.types.Type(known.Type.Name)
	if m.room <= 0 || (inner.Kind == api.SysScalar || inner.Kind == api.SysEnum) && !m.slips() {
		return name
	}
	return name + m.selections(inner.Name)
}

// document is the text of a document.
func (m *maker) document() string {
	m.frags = []string{"F", "G", "H", "I", "J"}[:m.r.Intn(6)]
	m.on = map[string]string{}
	for _, name := range m.frags {
		m.on[name] = m.condition("")
	}
	var out []string
	m.number = -1
	for i := range 1 + m.r.Intn(2) {
		m.room = 2 + m.r.Intn(12)
		kind := m.r.Intn(2)
		out = append(out, []string{"query A", "mutation B"}[kind]+[]string{"", "F"}[i]+m.selections(m.types.Root(api.DefKind(kind+1))))
	}
	for i, name := range m.frags {
		m.number, m.room = i, 1+m.r.Intn(6)
		text := "fragment " + name + " on " + m.on[name] + m.selections(m.on[name])
		if !m.slips() {
			out = append(out, text)
		}
		if m.slips() {
			out = append(out, "fragment "+name+" on "+m.condition("")+m.selections(m.on[name]))
		}
	}
	m.r.Shuffle(len(out), func(i, k int) { out[i], out[k] = out[k], out[i] })
	return strings.Join(out, "\n")
}
