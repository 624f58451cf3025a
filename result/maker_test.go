package result_test

import (
	"math/rand"
	"slices"
	"strconv"
	"strings"

	"pergola/api"
)

// maker makes sound type systems and any values by chance.
type maker struct {
	r      *rand.Rand
	src    strings.Builder
	ifaces [][]string // of each interface the interfaces that it must name
}

func (m *maker) chance(one int) bool { return m.r.Intn(one) == 0 }

func (m *maker) put(texts ...string) {
	for _, text := range texts {
		m.src.WriteString(text)
	}
}

// system writes a type system: scalars S, enums E, interfaces I, objects O, unions U and input types P, each kind with numbers behind its letter.
func (m *maker) system() string {
	m.put("type Query {a: Int}\ndirective @d on SCALAR | ENUM | ENUM_VALUE\n")
	for i := range 1 + m.r.Intn(3) {
		m.put("scalar S", strconv.Itoa(i), m.oneOf("", " @d", ` @specifiedBy(url: "u")`), "\n")
	}
	for i := range 1 + m.r.Intn(3) {
		m.enum("E" + strconv.Itoa(i))
	}
	for i := range m.r.Intn(5) {
		name := "I" + strconv.Itoa(i)
		named := m.someIfaces()
		m.fielded("interface", name, named)
		m.ifaces = append(m.ifaces, append(named, name))
	}
	objects := 1 + m.r.Intn(5)
	for i := range objects {
		m.fielded("type", "O"+strconv.Itoa(i), m.someIfaces())
	}
	for i := range 1 + m.r.Intn(3) {
		m.union("U"+strconv.Itoa(i), objects)
	}
	m.put("input P0 {a: Int}\n")
	return m.src.String()
}

func (m *maker) oneOf(choices ...string) string { return choices[m.r.Intn(len(choices))] }

// enum has some of a few values, so that those of several meet; some of them come by an extension.
func (m *maker) enum(name string) {
	own := m.r.Perm(5)[:1+m.r.Intn(5)]
	m.put("enum ", name, m.oneOf("", " @d"), " {")
	for i, n := range own {
		if i > 0 && m.chance(4) {
			m.put("}\nextend enum ", name, " {")
		}
		m.put(" v", strconv.Itoa(n), m.oneOf("", "", " @d", " @deprecated"))
	}
	m.put("}\n")
}

// someIfaces are the names of some of the interfaces, with all that these must name.
func (m *maker) someIfaces() []string {
	var names []string
	for _, all := range m.ifaces {
		if m.chance(3) {
			names = append(names, all...)
		}
	}
	slices.Sort(names)
	return slices.Compact(names)
}

func (m *maker) fielded(word, name string, ifaces []string) {
	cut := len(ifaces)
	if cut > 0 && m.chance(3) {
		cut = m.r.Intn(cut)
	}
	m.put(word, " ", name, implementing(ifaces[:cut]), " {a: Int}\n")
	if cut < len(ifaces) {
		m.put("extend ", word, " ", name, implementing(ifaces[cut:]), "\n")
	}
}

func implementing(ifaces []string) string {
	if len(ifaces) == 0 {
		return ""
	}
	return " implements " + strings.Join(ifaces, " & ")
}

func (m *maker) union(name string, objects int) {
	members := m.r.Perm(objects)[:1+m.r.Intn(objects)]
	for i, n := range members {
		head := " | "
		if i == 0 {
			head = "union " + name + " = "
		} else if m.chance(4) {
			head = "\nextend union " + name + " = "
		}
		m.put(head, "O", strconv.Itoa(n))
	}
	m.put("\n")
}

// value is any value of at most so many parts in one another.
func (m *maker) value(depth int, types []string) api.Value {
	kinds := 7
	if depth > 0 {
		kinds = 12
	}
	switch m.r.Intn(kinds) {
	case 0:
		return m.odd(types)
	case 1:
		return truth(m.chance(2))
	case 2:
		return whole(m.whole())
	case 3, 4:
		return m.float()
	case 5, 6:
		return text(m.oneOf("v0", "v1", "v2", "v3", "v4", "", "7", "true", "\u00e9", "\"\\\n"))
	case 7, 8, 9:
		items := make([]api.Value, m.r.Intn(4))
		for i := range items {
			items[i] = m.value(depth-1, types)
		}
		return list(items...)
	}
	var all []api.Member
	for i := range m.r.Intn(4) {
		name := "m" + strconv.Itoa(i)
		if m.chance(30) {
			name = "m0"
		}
		all = append(all, member(name, m.value(depth-1, types)))
	}
	return object(all...)
}

// odd is null, or mostly what no scalar lets out.
func (m *maker) odd(types []string) api.Value {
	switch m.r.Intn(6) {
	case 0:
		return api.Value{Kind: []api.Kind{-1, 8, 9}[m.r.Intn(3)]}
	case 1:
		return text(m.oneOf("\xff", "a\xc3", "\xed\xa0\x80"))
	case 2:
		return handle(m.oneOf(types...))
	}
	return api.Value{}
}

// whole is a number of any size, often right beside the bound of a size.
func (m *maker) whole() int64 {
	n := int64(1) << m.r.Intn(64)
	switch m.r.Intn(3) {
	case 0:
		n += int64(m.r.Intn(3)) - 1
	case 1:
		n = m.r.Int63() >> m.r.Intn(63)
	}
	if m.chance(2) {
		return -n
	}
	return n
}

func (m *maker) float() api.Value {
	floats := oddFloats()
	switch m.r.Intn(4) {
	case 0:
		return float(floats[m.r.Intn(len(floats))])
	case 1:
		return float(float64(m.whole()) / float64(int64(1)<<m.r.Intn(4)))
	case 2:
		return float(m.r.NormFloat64())
	}
	return float(float64(m.whole()))
}
