package lits_test

import (
	"math/rand"
	"strconv"
	"strings"
	"testing"

	"pergola/api"
)

// maker writes type systems and literals by chance.
type maker struct {
	r      *rand.Rand
	inputs []made // the input types that are made
}

// made is an input type: its fields' names with their types.
type made struct {
	name   string
	fields []madeField
}

type madeField struct {
	name, typ string
	required  bool
}

func (m *maker) chance(one int) bool { return m.r.Intn(one) == 0 }

func (m *maker) oneOf(words string) string {
	list := strings.Fields(words)
	return list[m.r.Intn(len(list))]
}

// typ is the text of a reference.
func (m *maker) typ() string {
	name := m.oneOf("Int Float String Boolean ID E S I0 I1 I2 I3 I0 I1 I2 I3")
	if m.chance(25) {
		name = m.oneOf("T U N Nowhere __TypeKind __Type")
	}
	if m.chance(4) {
		name += "!"
	}
	for m.chance(4) {
		name = "[" + name + "]"
		if m.chance(3) {
			name += "!"
		}
	}
	return name
}

// system is the text of a type system: names and types of all input types' fields come first, so that defaults can fit them.
func (m *maker) system() string {
	m.inputs = nil
	for i := range 4 {
		in := made{name: "I" + strconv.Itoa(i)}
		for range m.r.Intn(5) {
			in.fields = append(in.fields, madeField{name: m.oneOf("a b c d e f"), typ: m.typ()})
		}
		m.inputs = append(m.inputs, in)
	}
	out := "enum E {A B X} scalar S type T {x: Int} interface N {x: Int} union U = T "
	for i, in := range m.inputs {
		out += "input " + in.name
		for j, f := range in.fields {
			if j == 0 {
				out += " {"
			}
			if j == 3 {
				out += "} extend input " + in.name + " {"
			}
			out += f.name + ": " + f.typ
			if m.chance(3) {
				out += " = " + m.literal(f.typ, 4, true)
			} else {
				m.inputs[i].fields[j].required = strings.HasSuffix(f.typ, "!")
			}
			out += " "
		}
		if len(in.fields) > 0 {
			out += "}"
		}
		out += " "
	}
	return out
}

// literal is the text of a literal for a type, mostly a fitting one.
func (m *maker) literal(typ string, depth int, constant bool) string {
	if m.chance(40) {
		return m.any(depth, constant)
	}
	if bare, ok := strings.CutSuffix(typ, "!"); ok {
		typ = bare
	} else if m.chance(8) {
		return "null"
	}
	if !constant && m.chance(40) {
		return "$" + m.oneOf("v w")
	}
	if inner, ok := strings.CutPrefix(typ, "["); ok {
		inner = inner[:len(inner)-1]
		if m.chance(3) {
			return m.literal(inner, depth, constant)
		}
		out := ""
		for m.chance(2) {
			out += m.literal(inner, depth-1, constant) + " "
		}
		return "[" + out + "]"
	}
	return m.named(typ, depth, constant)
}

func (m *maker) named(name string, depth int, constant bool) string {
	switch name {
	case "Int":
		return m.oneOf("0 1 -1 -0 2147483647 -2147483648")
	case "Float":
		return m.oneOf("0 -0 1.5 -0.0 7 1e3 9223372036854775808")
	case "String":
		return m.oneOf(`"" "a" """b"""`)
	case "Boolean":
		return m.oneOf("true false")
	case "ID":
		return m.oneOf(`0 -0 "a" 9223372036854775807`)
	case "E":
		return m.oneOf("A B X")
	case "__TypeKind":
		return "LIST"
	}
	for _, in := range m.inputs {
		if in.name == name {
			return m.object(in, depth, constant)
		}
	}
	return m.any(depth, constant)
}

func (m *maker) object(in made, depth int, constant bool) string {
	out := ""
	for _, i := range m.r.Perm(len(in.fields)) {
		f := in.fields[i]
		if f.required && depth > -3 && !m.chance(30) || depth > 0 && m.chance(2) {
			out += f.name + ": " + m.literal(f.typ, depth-1, constant) + " "
		}
	}
	if m.chance(30) {
		out += m.oneOf("a b z") + ": " + m.any(depth-1, constant) + " "
	}
	return "{" + out + "}"
}

func (m *maker) any(depth int, constant bool) string {
	switch k := m.r.Intn(8); {
	case k == 0 && depth > 0:
		out := ""
		for m.chance(2) {
			out += m.any(depth-1, constant) + " "
		}
		return "[" + out + "]"
	case k == 1 && depth > 0:
		out := ""
		for m.chance(2) {
			out += m.oneOf("a b c d") + ": " + m.any(depth-1, constant) + " "
		}
		return "{" + out + "}"
	case k == 2 && !constant:
		return "$" + m.oneOf("v w")
	case k == 3:
		return "null"
	}
	return m.oneOf(`0 1 2147483648 9223372036854775808 1.5 1e400 -1e400 "" "A" true false A B C`)
}

// P13.1, P13.2: type systems and literals by chance.
func TestMadeByChance(t *testing.T) {
	faulty, valued, neither := 0, 0, 0
	for seed := range int64(500) {
		m := &maker{r: rand.New(rand.NewSource(seed))}
		src := m.system()
		second := newModel(build(t, src))
		for range 40 {
			typ := m.typ()
			text := m.literal(typ, 5, false)
			wrong, has := hold(t, src+"\n"+text+" at "+typ, second, lit(t, text), ref(t, typ))
			switch {
			case wrong:
				faulty++
			case has:
				valued++
			default:
				neither++
			}
		}
		for _, in := range m.inputs {
			for _, f := range in.fields {
				text := m.literal(f.typ, 6, true)
				hold(t, src+"\n"+text+" at "+f.typ, second, lit(t, text), ref(t, f.typ))
			}
			hold(t, src+"\n{} at "+in.name, second, lit(t, "{}"), ref(t, in.name))
		}
	}
	if faulty < 2000 || valued < 8000 || neither < 1500 {
		t.Error("too few of a kind:", faulty, valued, neither)
	}
}

// P13.1, P13.2: all small literals at all types with up to three marks.
func TestAllSmallAtAllTypes(t *testing.T) {
	second := newModel(build(t, "enum X {X Y} scalar S type T {a: Int} input J {a: Int b: J} input K {a: K! b: [X!] = X}"))
	var all []api.Lit
	for _, text := range small(3) {
		for _, leaf := range []string{"1", "null", `"1"`, "$v", "1e400"} {
			if leaf == "1" || strings.Contains(text, "1") {
				all = append(all, lit(t, strings.ReplaceAll(text, "1", leaf)))
			}
		}
	}
	wraps := []string{"", "!", "]", "]!", "!]", "!]!", "]]", "]]!", "]!]", "!]]"}
	for _, name := range []string{"Int", "ID", "Float", "String", "X", "S", "T", "J", "K", "Nowhere", ""} {
		for _, wrap := range wraps {
			for _, v := range all {
				hold(t, name+wrap, second, v, api.TypeRef{Name: name, Wrap: wrap})
			}
		}
	}
}
