package introspect_test

import (
	"math/rand"
	"strconv"
	"strings"
)

// maker writes sound type systems by chance.
type maker struct {
	r      *rand.Rand
	src    strings.Builder
	counts map[string]int // how many there are of each kind: O, I, U, E, P, S are types, d directives
	shared []string       // the field of each interface, as those that implement it write it
}

func (m *maker) chance(one int) bool { return m.r.Intn(one) == 0 }

func (m *maker) oneOf(choices ...string) string { return choices[m.r.Intn(len(choices))] }

func (m *maker) put(texts ...string) {
	for _, text := range texts {
		m.src.WriteString(text)
	}
}

// name is one of the names of a kind.
func (m *maker) name(kind string) string { return kind + strconv.Itoa(m.r.Intn(m.counts[kind])) }

func (m *maker) each(kind string, def func(name string)) {
	for i := range m.counts[kind] {
		def(kind + strconv.Itoa(i))
	}
}

// some writes one to four elements, whose names begin alike.
func (m *maker) some(name string, element func(name string) string) string {
	out := ""
	for i := range 1 + m.r.Intn(4) {
		out += element(name+strconv.Itoa(i)) + " "
	}
	return out
}

func (m *maker) note() string {
	return m.oneOf(" ", " ", " ", ` "" `, ` "n" `, ` "a\nb" `, ` """ block """ `, " \"\"\"\n  a\n    b\n\"\"\" ")
}

// uses are directives that mean nothing here, though their arguments bear the names of those that do.
func (m *maker) uses() string {
	out := ""
	for m.chance(4) {
		out += "@" + m.name("d") + m.oneOf("", "(x:1)", `(reason:"no" url:"no")`)
	}
	return out
}

func (m *maker) deprecation() string {
	return m.uses() + m.oneOf("", "", "", "", "@deprecated", "@deprecated(reason:null)", `@deprecated(reason:"r")`, `@deprecated(reason:"")`) + m.uses()
}

func (m *maker) outputType() string {
	typ := m.oneOf(m.name("O"), m.name("I"), m.name("U"), m.name("E"), m.name("S"), "Int", "ID", "__Type", "__TypeKind")
	for m.chance(3) {
		typ = "[" + typ + m.oneOf("]", "!]")
	}
	return typ + m.oneOf("", "!")
}

// literal fits a type of that name; where there are lists, as their one item.
func (m *maker) literal(name string) string {
	switch strings.TrimRight(name, "0123456789") {
	case "E":
		return m.oneOf("f0", "f1")
	case "P":
		return "{}"
	case "S":
		return m.oneOf("1.0", `{a:[1 B "s"]}`, "[]", "null_")
	case "Int":
		return m.oneOf("7", "-0")
	case "Float":
		return m.oneOf("1", "2.50e1")
	case "Boolean":
		return "true"
	case "ID":
		return m.oneOf("7", `"i"`)
	}
	return m.oneOf(`"s"`, `"""b"""`, `""`)
}

// input is an argument or an input field; a default fits.
func (m *maker) input(name string) string {
	typ := m.oneOf(m.name("E"), m.name("P"), m.name("S"), "Int", "Float", "String", "Boolean", "ID")
	preset := m.literal(typ)
	for m.chance(3) {
		typ = "[" + typ + m.oneOf("]", "!]")
		preset = m.oneOf(preset, "["+preset+"]")
	}
	typ = m.note() + name + ":" + typ
	switch m.r.Intn(6) {
	case 0:
		return typ + "=null" + m.uses()
	case 1, 2:
		return typ + "=" + preset + m.uses()
	case 3:
		if strings.HasSuffix(typ, "]") { // else an input type might need itself
			return typ + "!=" + preset + m.uses()
		}
	}
	return typ + m.uses()
}

func (m *maker) field(name string) string {
	args := ""
	if m.chance(2) {
		args = "(" + m.some("a", m.input) + ")"
	}
	return m.note() + name + args + ":" + m.outputType() + m.deprecation()
}

func (m *maker) value(name string) string { return m.note() + name + m.deprecation() }

// parts writes some parts of a type in its definition and a few in extensions.
func (m *maker) parts(keyword, name string, part func(name string) string) {
	m.put("{", part("f0"), " ", part("f1"), " ", m.some("g", part), "}")
	for i := range 2 {
		if m.chance(3) {
			m.put(" extend ", keyword, " ", name, "{", part("h"+strconv.Itoa(i)), "}")
		}
	}
}

// object implements some interfaces, and has their fields.
func (m *maker) object(name string) {
	ifaces, fields := "", ""
	for i, field := range m.shared {
		if m.chance(3) {
			ifaces += "&I" + strconv.Itoa(i)
			fields += field + " "
		}
	}
	if ifaces != "" {
		m.put("extend type ", name, " implements", ifaces, "{", fields, "}")
	}
	m.put(m.note(), "type ", name, m.uses())
	m.parts("type", name, m.field)
}

func (m *maker) iface(name string) {
	number, _ := strconv.Atoi(name[1:])
	m.put(m.note(), "interface ", name, m.uses(), "{", m.shared[number], "}")
}

func (m *maker) directive(name string) {
	m.put(m.note(), "directive@", name, "(", m.note(), "x:Int=1 reason:String url:String ")
	m.put(m.some("z", func(name string) string { return name + ":" + m.oneOf("Int", "[String!]") + m.oneOf("", "=null") }), ")repeatable on ")
	m.put("SCHEMA|SCALAR|OBJECT|FIELD_DEFINITION|ARGUMENT_DEFINITION|INTERFACE|UNION|ENUM|ENUM_VALUE|INPUT_OBJECT|INPUT_FIELD_DEFINITION", m.oneOf("", "|FIELD", "|QUERY"))
}

func makeSource(seed int64) string {
	m := &maker{r: rand.New(rand.NewSource(seed)), counts: map[string]int{}}
	for _, kind := range []string{"O", "I", "U", "E", "P", "S", "d"} {
		m.counts[kind] = 1 + m.r.Intn(3)
	}
	m.each("I", func(name string) { m.shared = append(m.shared, m.field("i"+name)) })
	m.put(m.note(), "schema", m.uses(), "{query:O0 ", m.oneOf("", "mutation:M"), m.oneOf("", " subscription:Sub"), "}type M{m:Int}type Sub{s:Int}")
	m.each("O", m.object)
	m.each("I", m.iface)
	m.each("U", func(name string) {
		m.put(m.note(), "union ", name, m.uses(), "=", m.oneOf("O0", "O0|M", "M|Sub|O0"))
	})
	m.each("E", func(name string) {
		m.put(m.note(), "enum ", name, m.uses())
		m.parts("enum", name, m.value)
	})
	m.each("P", func(name string) {
		m.put(m.note(), "input ", name, m.uses())
		m.parts("input", name, m.input)
	})
	m.each("S", func(name string) {
		m.put(m.note(), "scalar ", name, m.uses(), m.oneOf("", `@specifiedBy(url:"u")`, `@specifiedBy(url:"")`), m.uses())
	})
	m.each("d", m.directive)
	m.put(m.oneOf("", " directive@alone on FIELD|FIELD"))
	return m.src.String()
}
