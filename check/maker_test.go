package check_test

import (
	"maps"
	"math/rand"
	"slices"
	"strconv"
	"strings"

	"pergola/api"
	"pergola/typesys"
)

// maker writes documents for the zoo by chance. One choice in slip goes wrong on purpose.
type maker struct {
	r     *rand.Rand
	types *typesys.Types
	slip  int
	room  int // how many selections may still be made
	keys  int // how many keys were given out
	frags []string
	// of the definition that is written
	number int // among the fragments: those behind it may be spread without a ring
	uses   map[string]bool
	spread map[string]bool
}

func (m *maker) slips() bool { return m.r.Intn(m.slip) == 0 }

func (m *maker) chance(one int) bool { return m.r.Intn(one) == 0 }

func (m *maker) oneOf(words ...string) string { return words[m.r.Intn(len(words))] }

// variableTypes are the types of the variables, which their names tell.
func variableTypes() map[string]string {
	return map[string]string{"i": "Int", "n": "Int!", "p": "P", "e": "E"}
}

// literal is one that fits a type, if nothing slips.
func (m *maker) literal(want api.TypeRef, depth int) string {
	if m.slips() && want.Name == "P" {
		return m.oneOf("{}", "{}", "{p: {n: 1}}", "{n: 1 z: 1}", "{n: 1 n: 2}")
	}
	if m.slips() {
		return m.oneOf("null", `"s"`, "1.5", "[]", "{k: 1 k: 2}", "true", m.use(m.oneOf("i", "p", "e", "z")))
	}
	_, isMarked := typesys.Bare(want)
	switch {
	case want.Name == "Boolean":
		return m.oneOf("true", "false")
	case want.Name == "S":
		return m.oneOf("1", "[A]", `{x: {x: "s"}}`)
	case want.Name == "E" && m.chance(2):
		return m.oneOf("A", "B", m.use("e"))
	case want.Name == "E" || m.chance(6) && !isMarked:
		return "null"
	case want.Name == "P" && (depth == 0 || m.chance(4)):
		return m.use("p")
	case want.Name == "P":
		def, _ := m.types.Type("P")
		return "{" + m.inputs(def.Inputs, depth-1) + "}"
	case m.chance(3):
		return m.use("n")
	case m.chance(3) && !isMarked:
		return m.use("i")
	}
	return strconv.Itoa(m.r.Intn(3))
}

func (m *maker) use(name string) string {
	m.uses[name] = true
	return "$" + name
}

// inputs are arguments or an object's fields, the required ones among them.
func (m *maker) inputs(defs []api.InputDef, depth int) string {
	out := ""
	for _, def := range defs {
		_, isMarked := typesys.Bare(def.Type)
		if isMarked && !m.slips() || m.chance(2) {
			out += def.Name + ": " + m.literal(def.Type, depth) + " "
		}
		if m.slips() {
			out += m.oneOf(def.Name, "nope") + ": 1 "
		}
	}
	return out
}

func (m *maker) args(defs []api.InputDef) string {
	if m.slips() {
		return "(nope: 1)"
	}
	if inner := m.inputs(defs, 2); inner != "" {
		return "(" + inner + ")"
	}
	return ""
}

// dirs are directives that may stand at a place, if nothing slips.
func (m *maker) dirs(names ...string) string {
	out := ""
	for i := range names {
		if m.slips() {
			names[i] = m.oneOf("nope", "one", "many", "skip")
		}
		if m.chance(5) {
			def, _ := m.types.Directive(names[i])
			out += " @" + names[i] + m.args(def.Inputs)
			if m.slips() {
				out += " @" + names[i]
			}
		}
	}
	return out + " "
}

func (m *maker) selections(in string) string {
	out := ""
	for out == "" || m.chance(2) && m.room > 0 {
		out += m.selection(in) + " "
	}
	return "{" + out + "}"
}

func (m *maker) selection(in string) string {
	m.room--
	switch {
	case m.chance(3) && m.number+1 < len(m.frags) && in == "Query" || m.slips():
		return m.spreadOf() + m.dirs("many", "many")
	case m.chance(8) && m.room > 0:
		return "..." + m.dirs("skip") + m.selections(in)
	case m.chance(6) && m.room > 0 && (in == "Query" || in == "I" || in == "U"):
		on := m.oneOf("Query", "I", "U")
		return "... on " + on + m.dirs("include") + m.selections(on)
	case m.slips() && m.room > 0:
		on := m.oneOf("Apart", "Feed", "P", "E", "Nope")
		return "... on " + on + m.selections(on)
	}
	return m.field(in)
}

func (m *maker) spreadOf() string {
	behind := m.frags[min(m.number+1, len(m.frags)):]
	if m.slips() || len(behind) == 0 {
		behind = append(slices.Clone(m.frags), "Nope")
	}
	name := m.oneOf(behind...)
	m.spread[name] = true
	return "..." + name
}

func (m *maker) field(in string) string {
	def, _ := m.types.Type(in)
	name := "__typename"
	if len(def.Fields) > 0 && m.room > 0 {
		name = def.Fields[m.r.Intn(len(def.Fields))].Name
	}
	if m.slips() {
		name = m.oneOf("nope", "a", "b", "q")
	}
	known, _ := m.types.Field(in, name)
	inner, _ := m.types.Type(known.Type.Name)
	isLeaf := inner.Kind != api.SysObject && inner.Kind != api.SysInterface && inner.Kind != api.SysUnion
	out := m.key(!isLeaf || len(known.Args) > 0) + name + m.args(known.Args) + m.dirs("one", "many", "many")
	if isLeaf != m.slips() {
		return out
	}
	return out + m.selections(inner.Name)
}

// key is an alias that no other field has, or another one, or none.
func (m *maker) key(mayClash bool) string {
	switch {
	case m.slips():
		return m.oneOf("a", "b", "k0", "k1") + ": "
	case mayClash && !m.slips() || m.chance(4):
		m.keys++
		return "k" + strconv.Itoa(m.keys) + ": "
	}
	return ""
}

// written is a definition but for its variables.
type written struct {
	head, body   string
	uses, spread map[string]bool
}

func (m *maker) definition(number int, head, in string) written {
	m.number, m.room = number, 1+m.r.Intn(6)
	m.uses, m.spread = map[string]bool{}, map[string]bool{}
	body := " " + m.selections(in)
	if in == "Feed" && !m.slips() {
		body = " {k: " + m.oneOf("a", "b", "q "+m.selections("Query")) + "}"
	}
	return written{head, body, m.uses, m.spread}
}

// gather adds the names that a definition uses, and those of the fragments that it comes to.
func gather(w written, frags map[string]written, names, met map[string]bool) {
	maps.Copy(names, w.uses)
	for name := range w.spread {
		if !met[name] {
			met[name] = true
			gather(frags[name], frags, names, met)
		}
	}
}

// variables are the definitions of those that are used, if nothing slips.
func (m *maker) variables(used map[string]bool) string {
	types := variableTypes()
	out := ""
	for _, name := range slices.Sorted(maps.Keys(used)) {
		if types[name] != "" && !m.slips() {
			out += "$" + name + ": " + types[name] + " "
		}
		if m.slips() {
			out += "$" + name + ": " + m.oneOf("Query", "[Int]", "Float!", "Nope", "Int") + " "
		}
	}
	if m.slips() {
		out += "$w: Int "
	}
	if out == "" {
		return ""
	}
	return " (" + out + ")"
}

// document is the text of a document. Its fragments are used, if nothing slips, by an operation behind all others.
func (m *maker) document() string {
	m.frags = []string{"F", "G", "H", "J"}[:m.r.Intn(5)]
	frags := map[string]written{}
	met := map[string]bool{}
	var out []string
	for i, name := range m.frags {
		on := m.oneOf("Query", "Query", "I", "U")
		w := m.definition(i, "fragment "+name+" on "+on, on)
		frags[name] = w
		maps.Copy(met, w.spread)
		out = append(out, w.head+w.body)
		if m.slips() {
			out = append(out, w.head+" {a ..."+m.oneOf(m.frags...)+"}")
		}
	}
	for i := range m.r.Intn(3) {
		head, in := "query "+m.oneOf("A", "B")+strconv.Itoa(i), "Query"
		if m.chance(3) {
			head, in = "subscription C"+strconv.Itoa(i), "Feed"
		}
		if m.slips() {
			head = m.oneOf("query", "query L", "query L", "mutation", "subscription")
		}
		w := m.definition(-1, head, in)
		maps.Copy(met, w.spread)
		names := map[string]bool{}
		gather(w, frags, names, map[string]bool{})
		out = append(out, w.head+m.variables(names)+w.body)
	}
	last := m.definition(-1, "query L", "Query")
	for _, name := range m.frags {
		if !met[name] && !m.slips() {
			last.spread[name] = true
			last.body = strings.TrimSuffix(last.body, "}") + "..." + name + "}"
		}
	}
	names := map[string]bool{}
	gather(last, frags, names, map[string]bool{})
	out = append(out, last.head+m.variables(names)+m.dirs("one")+last.body)
	m.r.Shuffle(len(out), func(i, k int) { out[i], out[k] = out[k], out[i] })
	return strings.Join(out, "\n")
}
