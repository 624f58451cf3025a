package printer_test

import (
	"math"
	"math/rand"
	"reflect"
	"strings"
	"testing"

	"pergola/api"
	"pergola/printer"
)

// oddTexts are texts that are no names, no numbers, no marks, and values that no string or no block string can have.
func oddTexts() []string {
	return []string{
		"", "\xff", "a\xc3", "\xed\xa0\x80", "\x00", "\r", "\n", " ", "\n\n", " a\n b", "a\n", "\"", "\"\"\"", "\\", "\U0001F600", "a b", "{", "}", "]", "]]]]", "!!", "[", "]\xff!", "1", "true", "\ufeff", "#",
		strings.Repeat("]", 1000), strings.Repeat("é\"", 500),
	}
}

func oddNumbers() []int {
	return []int{math.MinInt, math.MinInt32, -2, -1, 0, 1, 2, 3, 4, 5, 6, 7, 8, 9, 10, 11, 255, 1 << 16, math.MaxInt32, math.MaxInt}
}

// spoiler changes parts of a value in its place, each with the chance of one in rate.
type spoiler struct {
	r    *rand.Rand
	rate int
	room int // how many lists may still be made
}

func (s *spoiler) spoil(v reflect.Value) {
	switch v.Kind() {
	case reflect.Struct:
		for i := range v.NumField() {
			s.spoil(v.Field(i))
		}
	case reflect.Slice:
		if s.hits() {
			v.Set(s.list(v.Type()))
		}
		for i := range v.Len() {
			s.spoil(v.Index(i))
		}
	case reflect.String:
		if texts := oddTexts(); s.hits() {
			v.SetString(texts[s.r.Intn(len(texts))])
		}
	case reflect.Bool:
		if s.hits() {
			v.SetBool(!v.Bool())
		}
	case reflect.Int:
		if numbers := oddNumbers(); s.hits() {
			v.SetInt(int64(numbers[s.r.Intn(len(numbers))]))
		}
	}
}

func (s *spoiler) hits() bool { return s.r.Intn(s.rate) == 0 }

// list is a list of zero elements, nil among them.
func (s *spoiler) list(t reflect.Type) reflect.Value {
	if s.room == 0 || s.r.Intn(3) == 0 {
		return reflect.Zero(t)
	}
	s.room--
	return reflect.MakeSlice(t, s.r.Intn(3), 3)
}

// checkSpoilt: the call ends, doesn't panic, answers the same again and leaves what it is handed as it is.
func checkSpoilt[T any](t *testing.T, k kind[T], thing T) {
	t.Helper()
	before := placed(thing, api.Pos{})
	defer func() {
		if err := recover(); err != nil {
			t.Fatalf("%s of %#v: %v", k.name, thing, err)
		}
	}()
	text := k.print(thing)
	if k.print(thing) != text {
		t.Fatalf("%s of %#v has two texts", k.name, thing)
	}
	if !reflect.DeepEqual(placed(thing, api.Pos{}), before) {
		t.Fatalf("%s has changed %#v", k.name, before)
	}
}

func spoilMany[T any](t *testing.T, k kind[T], write func(*maker)) {
	t.Helper()
	r := rand.New(rand.NewSource(5))
	for seed := range int64(3000) {
		m := newMaker(seed, int(seed)%80)
		write(m)
		thing := k.parsed(t, m.src.String(), api.MostDepth)
		s := spoiler{r, 1 + r.Intn(30), 50}
		s.spoil(reflect.ValueOf(&thing).Elem())
		checkSpoilt(t, k, thing)
	}
}

// P11.4: things that were well made till something in them was changed.
func TestSpoilt(t *testing.T) {
	spoilMany(t, documents, (*maker).document)
	spoilMany(t, systems, (*maker).system)
	spoilMany(t, literals, (*maker).literal)
	spoilMany(t, types, (*maker).ref)
}

// P11.4: kinds that are none, with all parts and with none.
func TestKindsThatAreNone(t *testing.T) {
	lit := api.Lit{Text: "a", Block: true, Items: make([]api.Lit, 2), Fields: make([]api.LitField, 2)}
	dirs := []api.Dir{{}, {Name: "d", Args: []api.Arg{{}, {Name: "x", Value: lit}}}}
	sel := api.Sel{Alias: "a", Name: "b", On: "T", Args: make([]api.Arg, 2), Dirs: dirs, Sels: make([]api.Sel, 2)}
	def := api.Def{Name: "a", On: "T", Short: true, Vars: make([]api.VarDef, 2), Dirs: dirs, Sels: []api.Sel{sel, {}}}
	sys := api.SysDef{
		Extend: true, Note: api.Note{Has: true}, Name: "a", Ifaces: make([]api.Named, 2), Dirs: dirs, Fields: make([]api.FieldDef, 2), Inputs: make([]api.InputDef, 2),
		Members: make([]api.Named, 2), Values: make([]api.ValueDef, 2), Roots: make([]api.RootDef, 2), Repeatable: true, Places: make([]api.Named, 2),
	}
	for _, n := range oddNumbers() {
		lit.Kind, sel.Kind, def.Kind, sys.Kind = api.LitKind(n), api.SelKind(n), api.DefKind(n), api.SysKind(n)
		checkSpoilt(t, literals, lit)
		checkSpoilt(t, literals, api.Lit{Kind: lit.Kind})
		for _, short := range []bool{true, false} {
			def.Short = short
			def.Sels[0] = sel
			checkSpoilt(t, documents, api.Document{Defs: []api.Def{def, {}, def}})
			checkSpoilt(t, documents, api.Document{Defs: []api.Def{{Kind: def.Kind, Short: short}, {Short: short, Sels: []api.Sel{{Kind: sel.Kind}}}}})
		}
		sys.Roots[1].Op = api.DefKind(n)
		checkSpoilt(t, systems, []api.SysDef{sys, {}, {Kind: sys.Kind}, {Kind: sys.Kind, Extend: true}})
	}
}

// P11.4: texts that no string can hold, and names that are none.
func TestOddTexts(t *testing.T) {
	for _, text := range oddTexts() {
		for _, other := range oddTexts() {
			checkSpoilt(t, types, api.TypeRef{Name: text, Wrap: other})
		}
		for kind := range api.LitKind(11) {
			for _, block := range []bool{true, false} {
				lit := api.Lit{Kind: kind, Text: text, Block: block}
				checkSpoilt(t, literals, lit)
				checkSpoilt(t, literals, api.Lit{Kind: api.LitObject, Fields: []api.LitField{{Name: text, Value: lit}}})
			}
		}
		for _, block := range []bool{true, false} {
			note := api.Note{Has: true, Block: block, Text: text}
			checkSpoilt(t, systems, []api.SysDef{
				{Kind: api.SysObject, Note: note, Name: text, Fields: []api.FieldDef{{Note: note, Name: text, Args: []api.InputDef{{Note: note}}}}},
				{Kind: api.SysEnum, Note: note, Name: text, Values: []api.ValueDef{{Note: note, Name: text}}},
			})
		}
	}
}

// nestLit is a literal with so many lists or objects around it.
func nestLit(kind api.LitKind, levels int) api.Lit {
	lit := api.Lit{Kind: api.LitInt, Text: "1"}
	for range levels {
		if kind == api.LitList {
			lit = api.Lit{Kind: kind, Items: []api.Lit{lit}}
		} else {
			lit = api.Lit{Kind: kind, Fields: []api.LitField{{Name: "a", Value: lit}}}
		}
	}
	return lit
}

func nestSel(levels int) api.Sel {
	sel := api.Sel{Kind: api.SelField, Name: "a"}
	for range levels {
		sel = api.Sel{Kind: api.SelInline, Sels: []api.Sel{sel}}
	}
	return sel
}

// P11.4: nested far deeper than any source.
func TestNestedDeep(t *testing.T) {
	const levels = 1 << 16
	same(t, "lists", printer.Lit(nestLit(api.LitList, levels)), strings.Repeat("[", levels)+"1"+strings.Repeat("]", levels))
	same(t, "objects", printer.Lit(nestLit(api.LitObject, levels)), strings.Repeat("{a: ", levels)+"1"+strings.Repeat("}", levels))
	same(t, "types", printer.Type(api.TypeRef{Name: "T", Wrap: strings.Repeat("!]", levels)}), strings.Repeat("[", levels)+"T"+strings.Repeat("!]", levels))
	text := printer.Document(api.Document{Defs: []api.Def{{Kind: api.DefQuery, Short: true, Sels: []api.Sel{nestSel(2000)}}}})
	var want strings.Builder
	want.WriteString("{\n")
	for level := range 2000 {
		want.WriteString(strings.Repeat("  ", level+1) + "... {\n")
	}
	want.WriteString(strings.Repeat("  ", 2001) + "a\n")
	for level := range 2001 {
		want.WriteString(strings.Repeat("  ", 2000-level) + "}\n")
	}
	if text != want.String() {
		t.Error("deep selections have a text of", len(text), "bytes, and not of", want.Len())
	}
}
