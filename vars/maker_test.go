package vars_test

import (
	"maps"
	"math/rand"
	"slices"
	"strings"

	"pergola/api"
	"pergola/printer"
	"pergola/typesys"
)

// plan is what most operations of a document say of a variable.
type plan struct {
	typ        api.TypeRef
	text       string // of the default, or empty
	hasDefault bool   // other than null
}

// maker writes documents for a type system by chance. One choice in slip goes wrong on purpose.
type maker struct {
	r     *rand.Rand
	types *typesys.Types
	slip  int
	room  int // how many selections may still be made
	frags []string
	plans map[string]plan
	// of the definition that is written
	number int // among the fragments: those behind it may be spread without a ring
	uses   map[string]bool
	spread map[string]bool
}

func (m *maker) slips() bool { return m.r.Intn(m.slip) == 0 }

func (m *maker) chance(one int) bool { return m.r.Intn(one) == 0 }

func (m *maker) oneOf(words ...string) string { return words[m.r.Intn(len(words))] }

// planAll chooses the variables of the document.
func (m *maker) planAll() {
	m.plans = map[string]plan{}
	for _, name := range []string{"a", "b", "c", "e", "f", "g", "h"} {
		p := plan{typ: api.TypeRef{Name: m.oneOf("Int", "Int", "Int", "P", "E", "S", "Boolean", "Float"), Wrap: m.oneOf("", "", "!", "!", "]", "!]", "!]!", "!]!]")}}
		if m.chance(3) {
			p.text = m.oneOf(" = 1", " = null", " = []", " = {}")
			p.hasDefault = p.text != " = null"
		}
		m.plans[name] = p
	}
}

// variable is the use of one that may stand at a place, if nothing slips; no text, if there is none.
func (m *maker) variable(at place) string {
	names := slices.Sorted(maps.Keys(m.plans))
	for _, i := range m.r.Perm(len(names)) {
		p := m.plans[names[i]]
		if !at.isTyped || permits(p.typ, p.hasDefault, at.typ, at.hasDefault) || m.slips() {
			m.uses[names[i]] = true
			return "$" + names[i]
		}
	}
	return ""
}

func (m *maker) literal(at place, depth int) string {
	if m.chance(2) {
		if text := m.variable(at); text != "" {
			return text
		}
	}
	if depth == 0 {
		return m.oneOf("1", "null", "A")
	}
	if item, ok := typesys.Item(at.typ); ok && !m.slips() {
		return "[" + m.literal(place{typ: item, isTyped: true}, depth-1) + " " + m.literal(place{typ: item, isTyped: true}, depth-1) + "]"
	}
	def, _ := m.types.Type(at.typ.Name)
	switch {
	case def.Kind == api.SysInput:
		return "{" + m.inputs(def.Inputs, depth-1) + "}"
	case at.typ.Name == "S" || m.slips():
		return m.oneOf("[", "[1 ") + m.literal(place{}, depth-1) + "]"
	}
	return m.oneOf("1", "A", "null", "true", "{}", "[]")
}

// inputs are arguments or an object's fields.
func (m *maker) inputs(defs []api.InputDef, depth int) string {
	out := ""
	for _, def := range defs {
		if m.chance(4) {
			out += def.Name + ": " + m.literal(place{def.Type, true, def.HasDefault}, max(depth, 0)) + " "
		}
	}
	if m.slips() {
		out += m.oneOf("nope", "i") + ": " + m.literal(place{}, 2)
	}
	return out
}

func (m *maker) args(defs []api.InputDef) string {
	if inner := m.inputs(defs, 3); inner != "" {
		return "(" + inner + ")"
	}
	return ""
}

func (m *maker) dirs() string {
	out := ""
	for m.chance(4) {
		name := m.oneOf("d", "d", "skip", "include")
		if m.slips() {
			name = "nope"
		}
		def, _ := m.types.Directive(name)
		out += " @" + name + m.args(def.Inputs)
	}
	return out + " "
}

func (m *maker) selections(in string) string {
	out := ""
	for out == "" || m.chance(2) {
		out += m.selection(in) + " "
	}
	return "{" + out + "}"
}

func (m *maker) selection(in string) string {
	m.room--
	switch {
	case m.chance(4) && m.number+1 < len(m.frags) || m.slips():
		return m.spreadOf() + m.dirs()
	case m.chance(8) && m.room > 0:
		return "..." + m.dirs() + m.selections(in)
	case m.chance(8) && m.room > 0:
		on := m.oneOf("Root", "Change", "Feed", "I", "U", "Nope", "E")
		return "... on " + on + m.dirs() + m.selections(on)
	}
	return m.field(in)
}

func (m *maker) spreadOf() string {
	behind := m.frags[min(m.number+1, len(m.frags)):]
	if m.slips() || len(behind) == 0 {
		behind = append(m.frags, "Nope")
	}
	name := m.oneOf(behind...)
	m.spread[name] = true
	return "..." + name
}

func (m *maker) field(in string) string {
	def, _ := m.types.Type(in)
	name := "__typename"
	if len(def.Fields) > 0 {
		name = def.Fields[m.r.Intn(len(def.Fields))].Name
		if m.chance(3) {
			name = def.Fields[0].Name
		}
	}
	if m.slips() {
		name = m.oneOf("nope", "x", "__type")
	}
	known, _ := m.types.Field(in, name)
	out := name + m.args(known.Args) + m.dirs()
	if inner, _ := m.types.Type(known.Type.Name); m.room > 0 && inner.Kind != api.SysScalar {
		return out + m.selections(inner.Name)
	}
	return out
}

// written is a definition but for its variables.
type written struct {
	head, body   string
	uses, spread map[string]bool
}

func (m *maker) definition(number int, head, in string) written {
	m.number, m.room = number, 2+m.r.Intn(6)
	m.uses, m.spread = map[string]bool{}, map[string]bool{}
	body := m.dirs() + m.selections(in)
	return written{head, body, m.uses, m.spread}
}

// namesOf are the names that a definition uses, and those of the fragments that it comes to.
func namesOf(w written, frags map[string]written) []string {
	names, met := map[string]bool{}, map[string]bool{}
	var walk func(w written)
	walk = func(w written) {
		for name := range w.uses {
			names[name] = true
		}
		for name := range w.spread {
			if !met[name] {
				met[name] = true
				walk(frags[name])
			}
		}
	}
	walk(w)
	return slices.Sorted(maps.Keys(names))
}

// variables are the definitions of those that are used, if nothing slips.
func (m *maker) variables(used []string) string {
	out := ""
	add := func(name string, p plan) {
		out += "$" + name + ": " + printer.Type(p.typ) + p.text + " "
	}
	for _, name := range used {
		if !m.slips() {
			add(name, m.plans[name])
		}
		if m.slips() {
			add(name, plan{typ: api.TypeRef{Name: m.oneOf("Int", "Root", "Nope", "U", "P"), Wrap: m.oneOf("", "!", "]!")}})
		}
	}
	if m.slips() {
		name := m.oneOf("a", "b", "z")
		add(name, m.plans[name])
		if name == "z" {
			out = strings.Replace(out, "$z: ", "$z: Int", 1)
		}
	}
	if out == "" {
		return ""
	}
	return "(" + out + ")"
}

// document is the text of a document.
func (m *maker) document() string {
	m.planAll()
	m.frags = []string{"F", "G", "H", "I", "J"}[:m.r.Intn(6)]
	frags := map[string]written{}
	var out []string
	for i, name := range m.frags {
		on := m.oneOf("Root", "Root", "Root", "Change", "I", "Nope")
		w := m.definition(i, "fragment "+name+" on "+on, on)
		frags[name] = w
		out = append(out, w.head+w.body)
		if m.slips() {
			second := m.definition(i, "fragment "+name+" on "+on, on)
			out = append(out, second.head+second.body)
		}
	}
	for range 1 + m.r.Intn(3) {
		kind := 1 + m.r.Intn(3)
		w := m.definition(-1, []string{"query ", "mutation ", "subscription "}[kind-1]+m.oneOf("A", "B", "F", ""), m.types.Root(api.DefKind(kind)))
		out = append(out, w.head+m.variables(namesOf(w, frags))+w.body)
	}
	m.r.Shuffle(len(out), func(i, k int) { out[i], out[k] = out[k], out[i] })
	return strings.Join(out, "\n")
}
