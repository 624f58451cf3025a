package typesys_test

import (
	"math/rand"
	"strings"
	"testing"

	"pergola/api"
)

// pool are the names of all that is made: few, so that names meet.
var pool = strings.Fields("A B C I J Query Mutation Int __Type skip __typename __schema __type a b d")

// maker writes type-system documents by chance.
type maker struct {
	r   *rand.Rand
	src strings.Builder
}

func (m *maker) put(texts ...string) {
	for _, text := range texts {
		m.src.WriteString(text)
		m.src.WriteByte(" \n"[m.r.Intn(2)])
	}
}

func (m *maker) chance(one int) bool { return m.r.Intn(one) == 0 }

func (m *maker) oneOf(names string) string {
	list := strings.Fields(names)
	return list[m.r.Intn(len(list))]
}

func (m *maker) typeName() string {
	if m.chance(12) {
		return m.oneOf("Int String __Type __TypeKind X a Subscription")
	}
	return m.oneOf("A B C I J Query Mutation")
}

// some writes elements: as many as chance says, but one at least.
func (m *maker) some(element func()) {
	element()
	for !m.chance(2) {
		element()
	}
}

func (m *maker) dirs() {
	for m.chance(4) {
		m.put("@" + m.oneOf("d e skip deprecated"))
		if m.chance(2) {
			m.put("(x:" + m.oneOf("1 [1,2] {a:[b,{}]} null") + ")")
		}
	}
}

func (m *maker) note() {
	if m.chance(6) {
		m.put(m.oneOf(`"n" """m"""`))
	}
}

func (m *maker) ref() {
	m.put(m.oneOf("# #! [#] [#!]! [[#]!]"))
	src := m.src.String()
	m.src.Reset()
	m.src.WriteString(strings.ReplaceAll(src, "#", m.typeName()))
}

func (m *maker) input() {
	m.note()
	m.put(m.oneOf("a b name"), ":")
	m.ref()
	if m.chance(3) {
		m.put("=", m.oneOf("1 [1,2] {a:[b]}"))
	}
	m.dirs()
}

func (m *maker) field() {
	m.note()
	m.put(m.oneOf("a b a b a b __typename __schema __type"))
	if m.chance(4) {
		m.put("(")
		m.some(m.input)
		m.put(")")
	}
	m.put(":")
	m.ref()
	m.dirs()
}

func (m *maker) ifaces() {
	if !m.chance(2) {
		return
	}
	m.put("implements", m.typeName())
	for m.chance(2) {
		m.put("&", m.typeName())
	}
}

func (m *maker) braces(element func()) {
	if m.chance(4) {
		return
	}
	m.put("{")
	m.some(element)
	m.put("}")
}

func (m *maker) root() { m.put(m.oneOf("query mutation subscription"), ":", m.typeName()) }

func (m *maker) value() {
	m.note()
	m.put(m.oneOf("a b A B"))
	m.dirs()
}

func (m *maker) typeDef(extend bool) {
	kind := m.oneOf("scalar type type type interface interface union enum input")
	m.put(kind, m.typeName())
	if kind == "type" || kind == "interface" {
		m.ifaces()
	}
	m.dirs()
	if extend {
		m.put("@x") // so that it always extends something
	}
	switch kind {
	case "type", "interface":
		m.braces(m.field)
	case "union":
		m.put("=", m.typeName())
		for !m.chance(3) {
			m.put("|", m.typeName())
		}
	case "enum":
		m.braces(m.value)
	case "input":
		m.braces(m.input)
	}
}

func (m *maker) def() {
	extend := m.chance(3)
	if extend {
		m.put("extend")
	} else {
		m.note()
	}
	switch {
	case m.chance(10):
		m.put("schema")
		m.dirs()
		m.put("{")
		m.some(m.root)
		m.put("}")
	case !extend && m.chance(8):
		m.put("directive", "@", m.oneOf("d e skip A"))
		if m.chance(2) {
			m.put("(")
			m.some(m.input)
			m.put(")")
		}
		m.put(m.oneOf("on repeatable,on"), m.oneOf("FIELD FIELD|QUERY"))
	default:
		m.typeDef(extend)
	}
}

func makeSource(seed int64, defs int) string {
	m := &maker{r: rand.New(rand.NewSource(seed))}
	for range defs {
		m.def()
	}
	return m.src.String()
}

// P12.1 to P12.10: definitions that are made by chance, held against the chapter's words.
func TestMade(t *testing.T) {
	kinds := map[api.SysKind]int{}
	for seed := range int64(800) {
		src := makeSource(seed, 1+int(seed)%16)
		hold(t, src, build(t, src), newModel(t, src), pool)
		for _, d := range read(t, src) {
			if d.Extend {
				kinds[-d.Kind]++
			} else {
				kinds[d.Kind]++
			}
		}
	}
	if len(kinds) != 15 {
		t.Error("kinds made:", kinds)
	}
}

// P12.1 to P12.10: the definitions of a source in all their orders, and each with each.
func TestSmallSources(t *testing.T) {
	defs := []string{
		"type A implements I{a:Int}", "interface I{b:A}", "union A=A|B", "type B implements I&I&A", "interface A implements I", "scalar A@d", "enum B{a}", "input I{a:Int}",
		"extend type A implements J@e{b:Int a:ID}", "extend interface I implements J{a:Int}", "extend union A=B", "interface J", "extend schema{query:A}", "schema{mutation:B}", "schema@d{query:A}",
		"type Query{a:Int}", "extend type Query{__schema:Int}", "interface Query", "type Int", "directive@d on ENUM", "directive@d(a:Int)on FIELD", "directive@skip on ENUM",
	}
	names := strings.Fields("A B I J Query a b d __schema __type skip")
	for _, first := range defs {
		for _, second := range defs {
			src := first + " " + second
			hold(t, src, build(t, src), newModel(t, src), names)
		}
	}
}

// P12.1 to P12.10: all orders of a few definitions that hang on each other.
func TestAllOrders(t *testing.T) {
	for _, defs := range [][]string{
		{"type A{a:Int}", "extend type A implements I{b:Int}", "extend type A@d{c:Int}", "interface I", "type A{z:Int}"},
		{"union A=B|C", "extend union A=C|I|B", "type B implements I", "type C", "interface I"},
		{"schema{query:A}", "schema{query:B}", "extend schema{mutation:B query:B}", "type A{__type:Int}", "type B"},
		{"interface I{a:Int}", "interface J implements I", "extend interface J implements A", "type A implements J", "extend type A implements I"},
	} {
		var lay func(taken string, left []string)
		lay = func(taken string, left []string) {
			if len(left) == 0 {
				hold(t, taken, build(t, taken), newModel(t, taken), strings.Fields("A B C I J a b c z __type"))
			}
			for i, d := range left {
				rest := append(append([]string{}, left[:i]...), left[i+1:]...)
				lay(taken+" "+d, rest)
			}
		}
		lay("", defs)
	}
}
