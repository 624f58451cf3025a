package sdl_test

import (
	"math/rand"
	"reflect"
	"slices"
	"strconv"
	"strings"
	"testing"

	"pergola/api"
	"pergola/sdl"
)

// maker makes definitions by chance and their source with them, so that all places are known ahead of reading.
type maker struct {
	r    *rand.Rand
	src  strings.Builder
	pos  api.Pos
	open int
	most int // the most brackets that were open at one time
	room int // how many elements may still be made
}

// put writes a token, with something that is passed over ahead of it, and answers its place.
func (m *maker) put(token string) api.Pos {
	gaps := []string{" ", " ", ",", "\n", "\r\n ", "\t", "# {c}\n", "\r", ",,", "#é\n\n "}
	gap := gaps[m.r.Intn(len(gaps))]
	m.src.WriteString(gap)
	if i := strings.LastIndexAny(gap, "\r\n"); i >= 0 {
		m.pos.Line += strings.Count(strings.ReplaceAll(gap, "\r\n", "\n"), "\n") + strings.Count(strings.ReplaceAll(gap, "\r\n", ""), "\r")
		m.pos.Col = 1
		gap = gap[i+1:]
	}
	m.pos.Col += len([]rune(gap))
	pos := m.pos
	m.src.WriteString(token)
	m.pos.Col += len([]rune(token))
	switch token {
	case "(", "[", "{":
		m.open++
		m.most = max(m.most, m.open)
	case ")", "]", "}":
		m.open--
	}
	return pos
}

func (m *maker) chance(one int) bool { return m.r.Intn(one) == 0 }

// name is a name that is none of but.
func (m *maker) name(but ...string) string {
	names := []string{"a", "b", "F", "on", "query", "extend", "implements", "repeatable", "true", "null", "_x9", "On", "type", "schema", "FIELD"}
	for {
		name := names[m.r.Intn(len(names))]
		if !slices.Contains(but, name) {
			return name
		}
	}
}

// many makes elements as long as there is room; at least so many.
func many[E any](m *maker, least int, make func() E) []E {
	var list []E
	for len(list) < least || m.room > 0 && !m.chance(3) {
		m.room--
		list = append(list, make())
	}
	return list
}

func (m *maker) bracket(left, right string, inside func()) api.Pos {
	pos := m.put(left)
	inside()
	m.put(right)
	return pos
}

func (m *maker) lit() api.Lit {
	lit := api.Lit{Kind: api.LitKind(m.r.Intn(8) + 2)}
	if m.room <= 0 {
		lit.Kind = api.LitInt
	}
	switch lit.Kind {
	case api.LitInt:
		lit.Text = strconv.Itoa(m.r.Intn(200) - 100)
		lit.Pos = m.put(lit.Text)
	case api.LitFloat:
		lit.Text = "-1.5e" + strconv.Itoa(m.r.Intn(9))
		lit.Pos = m.put(lit.Text)
	case api.LitString:
		lit.Text, lit.Block = "é{("+m.name(), m.chance(2)
		lit.Pos = m.put(map[bool]string{false: "\"", true: "\"\"\""}[lit.Block] + lit.Text + map[bool]string{false: "\"", true: "\"\"\""}[lit.Block])
	case api.LitBool:
		lit.Text = []string{"true", "false"}[m.r.Intn(2)]
		lit.Pos = m.put(lit.Text)
	case api.LitNull:
		lit.Pos = m.put("null")
	case api.LitEnum:
		lit.Text = []string{"on", "e", "NULL", "True", "query"}[m.r.Intn(5)]
		lit.Pos = m.put(lit.Text)
	case api.LitList:
		lit.Pos = m.bracket("[", "]", func() { lit.Items = many(m, 0, m.lit) })
	case api.LitObject:
		lit.Pos = m.bracket("{", "}", func() {
			lit.Fields = many(m, 0, func() api.LitField { return api.LitField(m.arg()) })
		})
	}
	return lit
}

func (m *maker) arg() api.Arg {
	arg := api.Arg{Name: m.name()}
	arg.Pos = m.put(arg.Name)
	m.put(":")
	arg.Value = m.lit()
	return arg
}

func (m *maker) args() (list []api.Arg) {
	if m.chance(3) {
		m.bracket("(", ")", func() { list = many(m, 1, m.arg) })
	}
	return list
}

func (m *maker) dir() api.Dir {
	dir := api.Dir{Pos: m.put("@"), Name: m.name()}
	m.put(dir.Name)
	dir.Args = m.args()
	return dir
}

func (m *maker) dirs() []api.Dir {
	if m.chance(2) {
		return nil
	}
	return many(m, 0, m.dir)
}

func (m *maker) ref() api.TypeRef {
	ref := api.TypeRef{Name: m.name()}
	if m.chance(2) {
		m.put(ref.Name)
	} else {
		m.bracket("[", "]", func() { ref = m.ref() })
		ref.Wrap += "]"
	}
	if m.chance(2) {
		m.put("!")
		ref.Wrap += "!"
	}
	return ref
}

func (m *maker) note() api.Note {
	if !m.chance(3) {
		return api.Note{}
	}
	note := api.Note{Has: true, Block: m.chance(2), Text: "é} " + m.name()}
	quotes := map[bool]string{false: "\"", true: "\"\"\""}[note.Block]
	m.put(quotes + note.Text + quotes)
	return note
}

func (m *maker) named(name string) api.Named {
	return api.Named{Name: name, Pos: m.put(name)}
}

// parted makes names with marks between them, and often one ahead of the first.
func (m *maker) parted(mark string, name func() string) []api.Named {
	first := true
	return many(m, 1, func() api.Named {
		if !first || m.chance(2) {
			m.put(mark)
		}
		first = false
		return m.named(name())
	})
}

// maybe makes a bracketed list, or none.
func maybe[E any](m *maker, left, right string, make func() E) (list []E) {
	if m.chance(2) {
		m.bracket(left, right, func() { list = many(m, 1, make) })
	}
	return list
}

func (m *maker) input() api.InputDef {
	def := api.InputDef{Note: m.note()}
	name := m.named(m.name())
	def.Name, def.Pos = name.Name, name.Pos
	m.put(":")
	def.Type = m.ref()
	if def.HasDefault = m.chance(2); def.HasDefault {
		m.put("=")
		def.Default = m.lit()
	}
	def.Dirs = m.dirs()
	return def
}

func (m *maker) field() api.FieldDef {
	def := api.FieldDef{Note: m.note()}
	name := m.named(m.name())
	def.Name, def.Pos = name.Name, name.Pos
	def.Args = maybe(m, "(", ")", m.input)
	m.put(":")
	def.Type = m.ref()
	def.Dirs = m.dirs()
	return def
}

func (m *maker) value() api.ValueDef {
	def := api.ValueDef{Note: m.note()}
	name := m.named(m.name("true", "false", "null"))
	def.Name, def.Pos, def.Dirs = name.Name, name.Pos, m.dirs()
	return def
}

func (m *maker) root() api.RootDef {
	def := api.RootDef{Op: api.DefKind(m.r.Intn(3) + 1), Type: m.name()}
	def.Pos = m.put([]string{"query", "mutation", "subscription"}[def.Op-1])
	m.put(":")
	m.put(def.Type)
	return def
}

// parts makes what stands behind the name of a definition that can be extended.
func (m *maker) parts(def *api.SysDef) {
	if def.Kind == api.SysObject || def.Kind == api.SysInterface {
		if m.chance(2) {
			m.put("implements")
			def.Ifaces = m.parted("&", func() string { return m.name() })
		}
	}
	def.Dirs = m.dirs()
	switch def.Kind {
	case api.SysSchema:
		if !def.Extend || len(def.Dirs) == 0 || m.chance(2) {
			m.bracket("{", "}", func() { def.Roots = many(m, 1, m.root) })
		}
	case api.SysObject, api.SysInterface:
		def.Fields = maybe(m, "{", "}", m.field)
	case api.SysUnion:
		if m.chance(2) {
			m.put("=")
			def.Members = m.parted("|", func() string { return m.name() })
		}
	case api.SysEnum:
		def.Values = maybe(m, "{", "}", m.value)
	case api.SysInput:
		def.Inputs = maybe(m, "{", "}", m.input)
	}
	if def.Extend && len(def.Ifaces)+len(def.Dirs)+len(def.Fields)+len(def.Members)+len(def.Values)+len(def.Inputs)+len(def.Roots) == 0 {
		def.Dirs = many(m, 1, m.dir)
	}
}

func (m *maker) def() api.SysDef {
	def := api.SysDef{Kind: api.SysKind(m.r.Intn(8) + 1)}
	if def.Kind != api.SysDirective && m.chance(3) {
		def.Extend = true
		m.put("extend")
	} else {
		def.Note = m.note()
	}
	def.Pos = m.put([]string{"schema", "scalar", "type", "interface", "union", "enum", "input", "directive"}[def.Kind-1])
	if def.Kind == api.SysDirective {
		m.put("@")
	}
	if def.Kind != api.SysSchema {
		def.Name = m.name()
		def.Pos = m.put(def.Name)
	}
	if def.Kind != api.SysDirective {
		m.parts(&def)
		return def
	}
	def.Inputs = maybe(m, "(", ")", m.input)
	if def.Repeatable = m.chance(2); def.Repeatable {
		m.put("repeatable")
	}
	m.put("on")
	all := strings.Fields(places)
	def.Places = m.parted("|", func() string { return all[m.r.Intn(len(all))] })
	return def
}

// makeDefs answers definitions, their source and the most brackets that are open in it at one time.
func makeDefs(seed int64, room int) ([]api.SysDef, string, int) {
	m := &maker{r: rand.New(rand.NewSource(seed)), pos: api.Pos{Line: 1, Col: 1}, room: room}
	defs := many(m, 1, m.def)
	return defs, m.src.String(), m.most
}

// P10.1: what is read is what was made, at just the depth that it needs and above; with less the fault is ErrDepth.
func TestMadeDefinitions(t *testing.T) {
	type kind struct {
		kind   api.SysKind
		extend bool
	}
	kinds := map[kind]int{}
	for seed := range int64(3000) {
		made, src, most := makeDefs(seed, 5+int(seed)%120)
		for _, depth := range []int{most, most + 1, 200, 1000} {
			got, fault := sdl.Parse([]byte(src), depth)
			if tellFault(fault) != "ok" || !reflect.DeepEqual(got, made) {
				t.Fatalf("seed %d, depth %d: %q: got %v %v, want %v", seed, depth, src, got, fault, made)
			}
		}
		if defs, fault := sdl.Parse([]byte(src), most-1); most > 0 && (len(defs) > 0 || fault.Kind != api.ErrDepth || len(fault.Pos) != 1) {
			t.Fatalf("seed %d, depth %d: %q: got %v %v", seed, most-1, src, defs, fault)
		}
		for _, def := range made {
			kinds[kind{def.Kind, def.Extend}]++
		}
	}
	if len(kinds) != 15 {
		t.Error("kinds made:", kinds)
	}
}
