package query_test

import (
	"math/rand"
	"reflect"
	"strconv"
	"strings"
	"testing"

	"pergola/api"
	"pergola/query"
)

// maker makes a document by chance and its source with it, so that all places are known ahead of reading.
type maker struct {
	r    *rand.Rand
	src  strings.Builder
	pos  api.Pos
	open int
	most int // the most brackets that were open at one time
	room int // how many elements may still be made
}

// put writes a token, with something that is passed over ahead of it, and answers its place.
func (m *maker) put(token string) api.Pos {
	gaps := []string{" ", " ", ",", "\n", "\r\n ", "\t", "# {c}\n", "\r", ",,", "#é\n\n "}
	gap := gaps[m.r.Intn(len(gaps))]
	m.src.WriteString(gap)
	if i := strings.LastIndexAny(gap, "\r\n"); i >= 0 {
		m.pos.Line += strings.Count(strings.ReplaceAll(gap, "\r\n", "\n"), "\n") + strings.Count(strings.ReplaceAll(gap, "\r\n", ""), "\r")
		m.pos.Col = 1
		gap = gap[i+1:]
	}
	m.pos.Col += len([]rune(gap))
	pos := m.pos
	m.src.WriteString(token)
	m.pos.Col += len([]rune(token))
	switch token {
	case "(", "[", "{":
		m.open++
		m.most = max(m.most, m.open)
	case ")", "]", "}":
		m.open--
	}
	return pos
}

func (m *maker) chance(one int) bool { return m.r.Intn(one) == 0 }

// name is a name that is none of but.
func (m *maker) name(but ...string) string {
	names := []string{"a", "b", "F", "on", "query", "mutation", "subscription", "fragment", "true", "null", "_x9", "On", "type"}
	for {
		name := names[m.r.Intn(len(names))]
		if len(but) == 0 || name != but[0] {
			return name
		}
	}
}

// many makes elements as long as there is room; at least so many.
func many[E any](m *maker, least int, make func() E) []E {
	var list []E
	for len(list) < least || m.room > 0 && !m.chance(3) {
		m.room--
		list = append(list, make())
	}
	return list
}

func (m *maker) bracket(left, right string, inside func()) api.Pos {
	pos := m.put(left)
	inside()
	m.put(right)
	return pos
}

func (m *maker) lit(constant bool) api.Lit {
	lit := api.Lit{Kind: api.LitKind(m.r.Intn(9) + 1)}
	if m.room <= 0 || lit.Kind == api.LitVar && constant {
		lit.Kind = api.LitInt
	}
	switch lit.Kind {
	case api.LitVar:
		lit.Pos = m.put("$")
		lit.Text = m.name()
		m.put(lit.Text)
	case api.LitInt:
		lit.Text = strconv.Itoa(m.r.Intn(200) - 100)
		lit.Pos = m.put(lit.Text)
	case api.LitFloat:
		lit.Text = "-1.5e" + strconv.Itoa(m.r.Intn(9))
		lit.Pos = m.put(lit.Text)
	case api.LitString:
		lit.Text, lit.Block = "é{("+m.name(), m.chance(2)
		lit.Pos = m.put(map[bool]string{false: "\"", true: "\"\"\""}[lit.Block] + lit.Text + map[bool]string{false: "\"", true: "\"\"\""}[lit.Block])
	case api.LitBool:
		lit.Text = []string{"true", "false"}[m.r.Intn(2)]
		lit.Pos = m.put(lit.Text)
	case api.LitNull:
		lit.Pos = m.put("null")
	case api.LitEnum:
		lit.Text = []string{"on", "e", "NULL", "True", "query"}[m.r.Intn(5)]
		lit.Pos = m.put(lit.Text)
	case api.LitList:
		lit.Pos = m.bracket("[", "]", func() { lit.Items = many(m, 0, func() api.Lit { return m.lit(constant) }) })
	case api.LitObject:
		lit.Pos = m.bracket("{", "}", func() {
			lit.Fields = many(m, 0, func() api.LitField { return api.LitField(m.arg(constant)) })
		})
	}
	return lit
}

func (m *maker) arg(constant bool) api.Arg {
	arg := api.Arg{Name: m.name()}
	arg.Pos = m.put(arg.Name)
	m.put(":")
	arg.Value = m.lit(constant)
	return arg
}

func (m *maker) args(constant bool) (list []api.Arg) {
	if m.chance(3) {
		m.bracket("(", ")", func() { list = many(m, 1, func() api.Arg { return m.arg(constant) }) })
	}
	return list
}

func (m *maker) dirs(constant bool) []api.Dir {
	if m.chance(2) {
		return nil
	}
	return many(m, 0, func() api.Dir {
		dir := api.Dir{Pos: m.put("@"), Name: m.name()}
		m.put(dir.Name)
		dir.Args = m.args(constant)
		return dir
	})
}

func (m *maker) ref() api.TypeRef {
	ref := api.TypeRef{Name: m.name()}
	if m.chance(2) {
		m.put(ref.Name)
	} else {
		m.bracket("[", "]", func() { ref = m.ref() })
		ref.Wrap += "]"
	}
	if m.chance(2) {
		m.put("!")
		ref.Wrap += "!"
	}
	return ref
}

func (m *maker) variable() api.VarDef {
	v := api.VarDef{Pos: m.put("$"), Name: m.name()}
	m.put(v.Name)
	m.put(":")
	v.Type = m.ref()
	if v.HasDefault = m.chance(2); v.HasDefault {
		m.put("=")
		v.Default = m.lit(true)
	}
	v.Dirs = m.dirs(true)
	return v
}

func (m *maker) set() (list []api.Sel) {
	m.bracket("{", "}", func() { list = many(m, 1, m.sel) })
	return list
}

func (m *maker) sel() api.Sel {
	sel := api.Sel{Kind: api.SelKind(m.r.Intn(3) + 1)}
	switch sel.Kind {
	case api.SelField:
		if m.chance(3) {
			sel.Alias = m.name()
			sel.Pos = m.put(sel.Alias)
			m.put(":")
		}
		sel.Name = m.name()
		if pos := m.put(sel.Name); sel.Alias == "" {
			sel.Pos = pos
		}
		sel.Args, sel.Dirs = m.args(false), m.dirs(false)
		if m.chance(2) {
			sel.Sels = m.set()
		}
	case api.SelSpread:
		sel.Pos = m.put("...")
		sel.Name = m.name("on")
		m.put(sel.Name)
		sel.Dirs = m.dirs(false)
	case api.SelInline:
		sel.Pos = m.put("...")
		if m.chance(2) {
			m.put("on")
			sel.On = m.name()
			m.put(sel.On)
		}
		sel.Dirs = m.dirs(false)
		sel.Sels = m.set()
	}
	return sel
}

func (m *maker) def() api.Def {
	def := api.Def{Kind: api.DefKind(m.r.Intn(4) + 1)}
	if def.Kind == api.DefQuery && m.chance(2) {
		def.Short = true
		def.Pos = m.bracket("{", "}", func() { def.Sels = many(m, 1, m.sel) })
		return def
	}
	def.Pos = m.put([]string{"query", "mutation", "subscription", "fragment"}[def.Kind-1])
	if def.Kind == api.DefFragment {
		def.Name = m.name("on")
		m.put(def.Name)
		m.put("on")
		def.On = m.name()
		m.put(def.On)
	} else {
		if m.chance(2) {
			def.Name = m.name()
			m.put(def.Name)
		}
		if m.chance(2) {
			m.bracket("(", ")", func() { def.Vars = many(m, 1, m.variable) })
		}
	}
	def.Dirs, def.Sels = m.dirs(false), m.set()
	return def
}

// makeDocument answers a document, its source and the most brackets that are open in it at one time.
func makeDocument(seed int64, room int) (api.Document, string, int) {
	m := &maker{r: rand.New(rand.NewSource(seed)), pos: api.Pos{Line: 1, Col: 1}, room: room}
	doc := api.Document{Defs: many(m, 1, m.def)}
	return doc, m.src.String(), m.most
}

// P9.1 to P9.4: what is read is what was made, at just the depth that it needs and above; with less the fault is ErrDepth.
func TestMadeDocuments(t *testing.T) {
	kinds := map[api.DefKind]int{}
	for seed := range int64(3000) {
		made, src, most := makeDocument(seed, 5+int(seed)%120)
		for _, depth := range []int{most, most + 1, 200, 1000} {
			got, fault := query.Parse([]byte(src), depth)
			if tellFault(fault) != "ok" || !reflect.DeepEqual(got, made) {
				t.Fatalf("seed %d, depth %d: %q: got %v %v, want %v", seed, depth, src, got, fault, made)
			}
		}
		if doc, fault := query.Parse([]byte(src), most-1); len(doc.Defs) > 0 || fault.Kind != api.ErrDepth || len(fault.Pos) != 1 {
			t.Fatalf("seed %d, depth %d: %q: got %v %v", seed, most-1, src, doc, fault)
		}
		for _, def := range made.Defs {
			kinds[def.Kind]++
		}
	}
	if len(kinds) != 4 {
		t.Error("kinds made:", kinds)
	}
}
