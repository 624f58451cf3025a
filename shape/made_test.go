package shape_test

import (
	"math/rand"
	"slices"
	"strings"
	"testing"

	"pergola/api"
	"pergola/lex"
	"pergola/sdl"
	"pergola/shape"
	"pergola/typesys"
)

// maker writes type-system documents by chance, of few names, so that they meet.
type maker struct {
	r   *rand.Rand
	src strings.Builder
}

func (m *maker) put(texts ...string) {
	for _, text := range texts {
		m.src.WriteString(text)
		m.src.WriteByte(" \n"[m.r.Intn(2)])
	}
}

func (m *maker) chance(one int) bool { return m.r.Intn(one) == 0 }

func (m *maker) oneOf(names string) string {
	list := strings.Fields(names)
	return list[m.r.Intn(len(list))]
}

func (m *maker) typeName() string {
	if m.chance(8) {
		return m.oneOf("String __Type __TypeKind X Mutation __A")
	}
	return m.oneOf("A B E I J N M S Query Int")
}

// some writes elements: as many as chance says, but one at least.
func (m *maker) some(element func()) {
	element()
	for m.chance(2) {
		element()
	}
}

func (m *maker) literal(depth int) string {
	if depth > 0 && m.chance(3) {
		out := ""
		for m.chance(2) {
			out += m.oneOf("a b x") + ":" + m.literal(depth-1) + " "
		}
		return "{" + out + "}"
	}
	if depth > 0 && m.chance(3) {
		out := ""
		for m.chance(2) {
			out += m.literal(depth-1) + " "
		}
		return "[" + out + "]"
	}
	return m.oneOf(`1 1 "s" A B null 1.5 1e999 true`)
}

func (m *maker) dirs() {
	for m.chance(5) {
		m.put("@" + m.oneOf("d d e f deprecated specifiedBy nope"))
		if m.chance(2) {
			m.put("(")
			m.some(func() { m.put(m.oneOf("x x y reason url")+":", m.literal(2)) })
			m.put(")")
		}
	}
}

func (m *maker) ref() {
	m.put(strings.ReplaceAll(m.oneOf("# # #! #! [#] [#!]! [[#]!]"), "#", m.typeName()))
}

func (m *maker) input() {
	m.put(m.oneOf("a b x x y __x"), ":")
	m.ref()
	if m.chance(3) {
		m.put("=", m.literal(2))
	}
	m.dirs()
}

func (m *maker) inputs() {
	if m.chance(3) {
		m.put("(")
		m.some(m.input)
		m.put(")")
	}
}

func (m *maker) field() {
	m.put(m.oneOf("a a b b c c __c"))
	m.inputs()
	m.put(":")
	m.ref()
	m.dirs()
}

func (m *maker) braces(element func()) {
	if m.chance(8) {
		return
	}
	m.put("{")
	m.some(element)
	m.put("}")
}

func (m *maker) ifaces() {
	if m.chance(2) {
		m.put("implements", m.oneOf("I I J J A E X"))
		for m.chance(2) {
			m.put("&", m.oneOf("I I J J B Query"))
		}
	}
}

func (m *maker) value() {
	m.put(m.oneOf("A A B B C __A"))
	m.dirs()
}

func (m *maker) typeDef(extend bool) {
	kind := m.oneOf("scalar type type type interface interface interface union enum input input")
	names := map[string]string{"scalar": "S", "type": "A A B Query", "interface": "I J", "union": "U", "enum": "E", "input": "N M"}
	name := m.oneOf(names[kind])
	if m.chance(12) {
		name = m.typeName()
	}
	m.put(kind, name)
	if kind == "type" || kind == "interface" {
		m.ifaces()
	}
	m.dirs()
	if extend {
		m.put("@" + m.oneOf("d e r")) // so that it always extends something
	}
	switch kind {
	case "type", "interface":
		m.braces(m.field)
	case "union":
		m.put("=", m.oneOf("A B Query"))
		for m.chance(2) {
			m.put("|", m.typeName())
		}
	case "enum":
		m.braces(m.value)
	case "input":
		m.braces(m.input)
	}
}

func (m *maker) def() {
	extend := m.chance(4)
	if extend {
		m.put("extend")
	}
	switch {
	case m.chance(12):
		m.put("schema")
		m.dirs()
		m.put("{")
		m.some(func() { m.put(m.oneOf("query query mutation subscription"), ":", m.oneOf("A A B Query I X")) })
		m.put("}")
	case !extend && m.chance(4):
		m.put("directive", "@", m.oneOf("d d e f skip __d"))
		m.inputs()
		m.put(m.oneOf("on repeatable,on"), strings.Join([]string{m.oneOf(sysPlaces), m.oneOf(sysPlaces), m.oneOf(allPlaces)}, "|"))
	default:
		m.typeDef(extend)
	}
}

func makeSource(seed int64, defs int) string {
	m := &maker{r: rand.New(rand.NewSource(seed))}
	for range defs {
		m.def()
	}
	return m.src.String()
}

// P14.1 to P14.3: definitions that are made by chance, held against the model; each kind of fault is met, and what is sound is as P14.4 says.
func TestMade(t *testing.T) {
	met := map[api.Errno]int{}
	for seed := range int64(1500) {
		src := makeSource(seed, 1+int(seed)%14)
		all := holdAll(t, src)
		for _, f := range all[len(all)-1] {
			met[f.Kind]++
		}
		if len(all[len(all)-1]) == 0 {
			holdSound(t, src)
			met[api.OK]++
		}
	}
	for kind, name := range kindNames {
		if met[kind] < 5 {
			t.Error("seldom met:", name, met[kind])
		}
	}
	t.Log("sound:", met[api.OK])
}

// tokens are a source's tokens without the end.
func tokens(src string) []api.Token {
	all := lex.Tokens([]byte(src))
	return all[:len(all)-1]
}

// another is the number of a token of the same kind, by chance.
func another(r *rand.Rand, list []api.Token, kind api.TokKind) int {
	for {
		if i := r.Intn(len(list)); list[i].Kind == kind {
			return i
		}
	}
}

// change changes a list of tokens in one place: a token becomes another of its kind, or two of a kind are exchanged, or one is dropped or doubled.
func change(r *rand.Rand, list []api.Token) []api.Token {
	i := another(r, list, api.TokName)
	if r.Intn(6) == 0 {
		i = r.Intn(len(list))
	}
	j := another(r, list, list[i].Kind)
	switch r.Intn(8) {
	case 0:
		return slices.Delete(list, i, i+1)
	case 1:
		return slices.Insert(list, i, list[i])
	case 2:
		list[i], list[j] = list[j], list[i]
	default:
		list[i] = list[j]
	}
	return list
}

func joined(list []api.Token) string {
	var texts []string
	for _, token := range list {
		texts = append(texts, token.Text)
	}
	return strings.Join(texts, " ")
}

// P14.1 to P14.4: the sound type system with one token or a few changed, as long as it is read.
func TestNearlySound(t *testing.T) {
	whole := tokens(soundSource)
	r := rand.New(rand.NewSource(144))
	met := map[api.Errno]int{}
	taken := 0
	for range 5000 {
		list := slices.Clone(whole)
		for range 1 + r.Intn(3) {
			list = change(r, list)
		}
		src := joined(list)
		defs, fault := sdl.Parse([]byte(src), api.MostDepth)
		if fault.Kind != api.OK {
			continue
		}
		taken++
		got, want := shape.Check(defs), modelAnswers(defs)
		if told(got) != told(want[len(want)-1]) {
			t.Fatalf("%q:\ngot  %s\nwant %s", src, told(got), told(want[len(want)-1]))
		}
		for _, f := range got {
			met[f.Kind]++
		}
		if len(got) == 0 {
			holdSound(t, src)
			met[api.OK]++
		}
	}
	if taken < 1000 || met[api.OK] < 100 || len(met) < 38 {
		t.Error("taken:", taken, "sound:", met[api.OK], "kinds:", len(met))
	}
}

// holdSound holds a type system without faults against P14.4.
func holdSound(t testing.TB, src string) {
	t.Helper()
	types := typesys.Build(read(t, src))
	kind := func(name string) api.SysKind {
		d, _ := types.Type(name)
		return d.Kind
	}
	wrong := func(what ...string) { t.Errorf("%q: %s", src, strings.Join(what, " ")) }
	inputs := func(list []api.InputDef) {
		for _, d := range list {
			if !types.Input(d.Type.Name) {
				wrong("input", d.Name)
			}
		}
	}
	for _, r := range types.Schema().Roots {
		if kind(r.Type) != api.SysObject {
			wrong("root", r.Type)
		}
	}
	for _, name := range types.Directives() {
		d, _ := types.Directive(name)
		inputs(d.Inputs)
	}
	for _, name := range types.Names() {
		d, _ := types.Type(name)
		inputs(d.Inputs)
		for _, f := range d.Fields {
			inputs(f.Args)
			if !types.Output(f.Type.Name) {
				wrong("field", name, f.Name)
			}
		}
		for _, n := range d.Members {
			if kind(n.Name) != api.SysObject {
				wrong("member", name, n.Name)
			}
		}
		for _, n := range d.Ifaces {
			iface, _ := types.Type(n.Name)
			if iface.Kind != api.SysInterface || !types.Within(name, n.Name) {
				wrong("interface", name, n.Name)
			}
			for _, f := range iface.Fields {
				if has, ok := types.Field(name, f.Name); !ok || !types.Fits(has.Type, f.Type) {
					wrong("implemented", name, n.Name, f.Name)
				}
			}
		}
	}
}

// P14.1 to P14.3: each of a few definitions with each other, in both orders, held against the model.
func TestSmallSources(t *testing.T) {
	defs := []string{
		"type A implements I{a:Int}", "interface I{b:A a(x:Int):Int}", "union A=A|B", "type B implements I&I&A{a:Int}", "interface A implements I{a:Int}", "scalar A@d", "enum A{A@d}", "input I{a:I! b:Int=A}", "input A@d{i:I!}",
		"extend type A implements J@d{b:Int a:ID}", "extend interface I implements J{c:Int}", "extend union A=B", "interface J{a:Int}", "extend schema@d{query:A}", "schema{mutation:B}", "schema@d{query:A}", "schema{query:B mutation:B}",
		"type Query{a:A b(x:A=A):I}", "extend type Query{a:Int}", "interface Query", "type Int", "directive@d(x:A)on OBJECT", "directive@d(x:I@d)on SCHEMA", "directive@skip on ENUM", "directive@e(x:A={i:{a:1}}@d)on FIELD",
	}
	for _, first := range defs {
		for _, second := range defs {
			holdAll(t, first+" "+second)
		}
	}
}

// P14.1 to P14.3: all orders of a few definitions that hang on each other, held against the model.
func TestAllOrders(t *testing.T) {
	for _, defs := range [][]string{
		{"type A{a:Int}", "extend type A implements I@d{b:Int a:Int}", "extend type A@d{c:Int b:X}", "interface I{c:ID}", "type A{z:Int}"},
		{"union A=B|C", "extend union A=C|I|B", "type B implements I", "type C", "interface I"},
		{"schema{query:A}", "schema@d{query:B}", "extend schema@d@d{mutation:A query:B}", "type A{a:Int}", "directive@d on SCHEMA"},
		{"interface I{a(x:Int):I}", "interface J implements I{a(y:Int!):I}", "extend interface J implements A", "type A implements J{a:J}", "extend type A implements I"},
		{"input A{b:B!}", "input B{c:Int}", "extend input B{a:A! c:E=B}", "directive@d(x:A)on ENUM_VALUE", "enum E{A@d@d}"},
	} {
		var lay func(taken string, left []string)
		lay = func(taken string, left []string) {
			if len(left) == 0 {
				holdAll(t, taken)
			}
			for i, d := range left {
				rest := append(append([]string{}, left[:i]...), left[i+1:]...)
				lay(taken+" "+d, rest)
			}
		}
		lay("", defs)
	}
}
