package collect_test

import (
	"math/rand"
	"slices"
	"strconv"
	"strings"

	"pergola/typesys"
)

// maker writes valid documents over the zoo by chance. A key stands for one field with one list of arguments wherever it is, so that all of one key merge.
type maker struct {
	r     *rand.Rand
	types *typesys.Types
	room  int      // how many selections may still be made
	ons   []string // the types of the fragments
	next  int      // the first of the fragments that may be spread: each spreads those behind it alone, so that none is on a ring
	met   []string
}

func (m *maker) chance(one int) bool { return m.r.Intn(one) == 0 }

func oneOf[T any](m *maker, from ...T) T { return from[m.r.Intn(len(from))] }

// fieldTexts are fields with their keys and arguments, by the field's name.
func fieldTexts() map[string][]string {
	return map[string][]string{
		"__typename": {"__typename", "t: __typename"},
		"a":          {"a", "a1: a(x: 1)", "a2: a(x: $i)", "A: a(x: null)"},
		"b":          {"b", "b1: b"},
		"c":          {"c", "a3: c"},
		"i":          {"i", "i1: i"},
		"j":          {"j"},
		"u":          {"u", "u1: u"},
		"v":          {"v", "i2: v"},
		"q":          {"q", "q1: q"},
	}
}

// fieldsOf are the names of the fields that may stand in a type's braces.
func (m *maker) fieldsOf(in string) []string {
	found := []string{"__typename"}
	for _, name := range []string{"a", "b", "c", "i", "j", "u", "v", "q"} {
		if _, ok := m.types.Field(in, name); ok {
			found = append(found, name, name)
		}
	}
	return found
}

// applying are the types of fragments that may stand in a type's braces.
func (m *maker) applying(in string) []string {
	var found []string
	for _, on := range fragmentTypes() {
		if m.types.Meet(in, on) {
			found = append(found, on)
		}
	}
	return found
}

func fragmentTypes() []string { return []string{"I", "J", "U", "V", "Query", "O", "P", "Apart"} }

func (m *maker) dirs() string {
	out := ""
	if m.chance(6) {
		out += " @many(if: " + oneOf(m, "true", "false", "$t") + ")"
	}
	for _, name := range []string{" @skip", " @include"} {
		if m.chance(5) {
			out += name + "(if: " + oneOf(m, "true", "false", "$s", "$t", "$f") + ")"
		}
	}
	return out + " "
}

func (m *maker) selections(in string, depth int) string {
	out := ""
	for out == "" || m.room > 0 && !m.chance(3) {
		m.room--
		out += m.selection(in, depth)
	}
	return "{" + out + "}"
}

func (m *maker) selection(in string, depth int) string {
	choice := m.r.Intn(10)
	switch {
	case choice == 0 && depth > 0:
		return "..." + m.dirs() + m.selections(in, depth-1)
	case choice < 3 && depth > 0 && len(m.applying(in)) > 0:
		on := oneOf(m, m.applying(in)...)
		return "... on " + on + m.dirs() + m.selections(on, depth-1)
	case choice < 6:
		if spread := m.spread(in); spread != "" {
			return spread
		}
	}
	return m.field(in, depth)
}

func (m *maker) spread(in string) string {
	var found []int
	for i := m.next; i < len(m.ons); i++ {
		if m.types.Meet(in, m.ons[i]) {
			found = append(found, i)
		}
	}
	if len(found) == 0 {
		return ""
	}
	name := "F" + strconv.Itoa(oneOf(m, found...))
	m.met = append(m.met, name)
	return "..." + name + m.dirs()
}

func (m *maker) field(in string, depth int) string {
	name := oneOf(m, m.fieldsOf(in)...)
	def, _ := m.types.Field(in, name)
	isLeaf := m.types.Input(def.Type.Name)
	if !isLeaf && depth == 0 {
		return "__typename" + m.dirs()
	}
	out := oneOf(m, fieldTexts()[name]...) + m.dirs()
	if isLeaf {
		return out
	}
	return out + m.selections(def.Type.Name, depth-1)
}

const variableDefs = "($s: Boolean! $t: Boolean = true $f: Boolean = false $i: Int) @uses(of: [$s $t $f] i: $i) "

// document is the text of a valid document. Its first operation is one of a kind by chance, and its last one spreads all fragments that no other definition does.
func (m *maker) document() string {
	m.ons = make([]string, m.r.Intn(5))
	for i := range m.ons {
		m.ons[i] = oneOf(m, fragmentTypes()...)
	}
	m.next, m.room = 0, 2+m.r.Intn(14)
	out := []string{oneOf(m, "query A", "query A", "query A", "mutation A")}
	switch {
	case m.chance(8):
		out[0] = "subscription A" + variableDefs + "{i " + m.selections("I", 3) + " i " + m.selections("I", 2) + "}"
	case out[0] == "query A":
		out[0] += variableDefs + m.selections("Query", 4)
	default:
		out[0] += variableDefs + m.selections("Change", 4)
	}
	for i, on := range m.ons {
		m.next, m.room = i+1, 1+m.r.Intn(6)
		dirs := oneOf(m, "", "@many(if: false) ", "@uses ")
		out = append(out, "fragment F"+strconv.Itoa(i)+" on "+on+" "+dirs+m.selections(on, 3))
	}
	last := "__typename "
	for i := range m.ons {
		if name := "F" + strconv.Itoa(i); !slices.Contains(m.met, name) {
			last += "..." + name + " "
		}
	}
	out = append(out, "query L"+variableDefs+"{v {"+last+"}}")
	return strings.Join(out, "\n")
}

// given are variables that fit, as JSON.
func (m *maker) given() string {
	out := `{"s":` + oneOf(m, "true", "false")
	for _, name := range []string{"t", "f"} {
		if !m.chance(3) {
			out += `,"` + name + `":` + oneOf(m, "true", "false", "null")
		}
	}
	return out + oneOf(m, "", `,"i":7`) + "}"
}
