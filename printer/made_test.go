package printer_test

import (
	"math/rand"
	"reflect"
	"strconv"
	"testing"

	"pergola/api"
)

func (m *maker) variable() {
	m.put("$")
	m.name()
	m.put(":", " ")
	m.ref()
	m.fallback()
	m.dirs(true)
}

func (m *maker) sel() {
	kind := 0
	if m.room > 0 {
		kind = m.choose(4)
	}
	m.count("selection " + strconv.Itoa(kind))
	switch kind {
	case 0, 1:
		if kind == 1 {
			m.name()
			m.put(":", " ")
		}
		m.name()
		m.args(false)
		m.dirs(false)
		m.maybeSet(m.sel)
	case 2:
		m.put("...")
		m.name("on")
		m.dirs(false)
	case 3:
		m.put("...")
		if m.maybe() {
			m.put(" ", "on", " ")
			m.name()
		}
		m.dirs(false)
		m.put(" ")
		m.set(m.sel)
	}
}

func (m *maker) def() {
	kind := m.choose(5)
	m.count("definition " + strconv.Itoa(kind))
	switch kind {
	case 0:
		m.set(m.sel)
		return
	case 4:
		m.put("fragment", " ")
		m.name("on")
		m.put(" ", "on", " ")
		m.name()
	default:
		m.put([]string{"query", "mutation", "subscription"}[kind-1])
		if m.maybe() {
			m.put(" ")
			m.name()
		}
		if m.maybe() {
			m.put("(")
			m.many(1, ", ", m.variable)
			m.put(")")
		}
	}
	m.dirs(false)
	m.put(" ")
	m.set(m.sel)
}

func (m *maker) input() {
	m.name()
	m.put(":", " ")
	m.ref()
	m.fallback()
	m.dirs(true)
}

func (m *maker) inputs() {
	if m.maybe() {
		m.put("(")
		m.many(1, ", ", func() {
			m.note(" ")
			m.input()
		})
		m.put(")")
	}
}

func (m *maker) field() {
	m.note("\n")
	m.name()
	m.inputs()
	m.put(":", " ")
	m.ref()
	m.dirs(true)
}

func (m *maker) root() {
	m.one("query", "mutation", "subscription")
	m.put(":", " ")
	m.name()
}

func (m *maker) sysDef() {
	kind := m.choose(8)
	extend := kind != 7 && m.maybe()
	m.count("system " + strconv.Itoa(kind) + strconv.FormatBool(extend))
	if extend {
		m.put("extend", " ")
	} else {
		m.note("\n")
	}
	m.put([]string{"schema", "scalar", "type", "interface", "union", "enum", "input", "directive"}[kind])
	if kind == 7 {
		m.directive()
		return
	}
	if kind > 0 {
		m.put(" ")
		m.name()
	}
	m.parts(kind, extend)
}

// parts writes what stands behind a definition's name; of an extension at least one part.
func (m *maker) parts(kind int, extend bool) {
	some := !extend
	if (kind == 2 || kind == 3) && m.maybe() {
		some = true
		m.put(" ", "implements", " ")
		m.parted("&", m.anyName)
	}
	before := m.made["directive"]
	m.dirs(true)
	some = some || m.made["directive"] > before
	switch kind {
	case 0:
		if !extend || !some {
			m.put(" ")
			m.set(m.root)
			return
		}
		some = m.maybeSet(m.root) || some
	case 2, 3:
		some = m.maybeSet(m.field) || some
	case 4:
		if !some || m.maybe() {
			some = true
			m.put(" ", "=", " ")
			m.parted("|", m.anyName)
		}
	case 5:
		some = m.maybeSet(func() {
			m.note("\n")
			m.name("true", "false", "null")
			m.dirs(true)
		}) || some
	case 6:
		some = m.maybeSet(func() {
			m.note("\n")
			m.input()
		}) || some
	}
	if !some {
		m.dir(true)
	}
}

func (m *maker) directive() {
	m.put(" ", "@")
	m.name()
	m.inputs()
	if m.maybe() {
		m.put(" ", "repeatable")
	}
	m.put(" ", "on", " ")
	m.parted("|", func() { m.one("QUERY", "FIELD", "SCHEMA", "ENUM_VALUE", "INPUT_FIELD_DEFINITION") })
}

func (m *maker) document() { m.whole(m.def) }
func (m *maker) system()   { m.whole(m.sysDef) }
func (m *maker) literal()  { m.lit(false) }

// checkMade: the source is printed as the text (P11.1), and the text is read again as the source is, at just the depth that it needs and above (P11.2).
func checkMade[T any](t *testing.T, k kind[T], m *maker, depths ...int) {
	t.Helper()
	src, text := m.src.String(), m.text.String()
	for _, depth := range append(depths, m.most) {
		thing := k.parsed(t, src, depth)
		if got := k.print(thing); got != text {
			t.Fatalf("%s of %q is\n%s\nand not\n%s", k.name, src, got, text)
		}
		again := k.parsed(t, text, depth)
		if !reflect.DeepEqual(placed(thing, api.Pos{}), placed(again, api.Pos{})) {
			t.Fatalf("%s: %q is read as\n%v\nand its text as\n%v", k.name, src, thing, again)
		}
		if got := k.print(again); got != text {
			t.Fatalf("%s: %q is printed again as %q", k.name, text, got)
		}
	}
	if m.most == 0 {
		return
	}
	for _, read := range []string{src, text} {
		if _, fault := k.read([]byte(read), m.most-1); fault.Kind != api.ErrDepth {
			t.Fatalf("%s: %q, depth %d: %v", k.name, read, m.most-1, fault)
		}
	}
}

// byChance holds things that are made by chance, and answers how many there were of each kind of part.
func byChance[T any](t *testing.T, k kind[T], count int64, write func(*maker)) map[string]int {
	t.Helper()
	made := map[string]int{}
	for seed := range count {
		m := newMaker(seed, int(seed)%150)
		m.made = made
		write(m)
		checkMade(t, k, m, m.most+1, api.MostDepth, 1000)
	}
	return made
}

// wantMade: at least 50 of each of the parts were made.
func wantMade(t *testing.T, made map[string]int, parts ...string) {
	t.Helper()
	for _, part := range parts {
		if made[part] < 50 {
			t.Error(part, "was made", made[part], "times")
		}
	}
}

func TestMadeDocuments(t *testing.T) {
	made := byChance(t, documents, 3000, (*maker).document)
	wantMade(t, made, "definition 0", "definition 1", "definition 2", "definition 3", "definition 4")
	wantMade(t, made, "selection 0", "selection 1", "selection 2", "selection 3", "directive", "literal 6", "literal 9")
}

func TestMadeSystems(t *testing.T) {
	made := byChance(t, systems, 4000, (*maker).system)
	for kind := range 8 {
		wantMade(t, made, "system "+strconv.Itoa(kind)+"false")
		if kind < 7 {
			wantMade(t, made, "system "+strconv.Itoa(kind)+"true")
		}
	}
	wantMade(t, made, "note 0", "note 1", "directive", "literal 6")
}

func TestMadeParts(t *testing.T) {
	made := byChance(t, literals, 6000, (*maker).literal)
	for kind := range 10 {
		wantMade(t, made, "literal "+strconv.Itoa(kind))
	}
	byChance(t, types, 500, (*maker).ref)
}

// choices goes through all lists of choices, one after the other.
type choices struct {
	list, widths []int
	at           int
}

func (c *choices) choose(n int) int {
	if c.at == len(c.list) {
		c.list, c.widths = append(c.list, 0), append(c.widths, n)
	}
	c.at++
	return c.list[c.at-1]
}

// next goes on to the next list of choices, if there is one.
func (c *choices) next() bool {
	for i := c.at - 1; i >= 0; i-- {
		if c.list[i]+1 < c.widths[i] {
			c.list[i]++
			c.list, c.widths, c.at = c.list[:i+1], c.widths[:i+1], 0
			return true
		}
	}
	return false
}

// every holds all things of at most so many elements (a few more, where one needs others).
func every[T any](t *testing.T, k kind[T], room, least int, write func(*maker)) {
	t.Helper()
	r := rand.New(rand.NewSource(7))
	c, count := &choices{}, 0
	for more := true; more; more = c.next() {
		m := &maker{choose: c.choose, r: r, room: room, made: map[string]int{}}
		write(m)
		checkMade(t, k, m)
		count++
	}
	if count < least {
		t.Error(k.name, "made", count, "times")
	}
}

func TestEveryDocument(t *testing.T) { every(t, documents, 4, 10000, (*maker).document) }
func TestEverySystem(t *testing.T)   { every(t, systems, 3, 10000, (*maker).system) }
func TestEveryLiteral(t *testing.T)  { every(t, literals, 4, 5000, (*maker).literal) }
func TestEveryType(t *testing.T)     { every(t, types, 7, 200, (*maker).ref) }
