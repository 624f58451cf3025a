package introspect_test

import (
	"math"
	"math/rand"
	"reflect"
	"strings"
	"testing"

	"pergola/api"
	"pergola/introspect"
	"pergola/typesys"
)

// oddTexts are texts that are no names, no references and no marks, and some that are.
func oddTexts() []string {
	return []string{"", "\xff", "a\xc3", "\x00", " ", "]", "!", "]!", "!!", "[", "[]", "[]!", ".", "..", "a.", ".a", "(", ")", "()", "a()", "a.b()", "@", "@()", "@d()", "@.", "__", "_", "1", "O0", "E0", "I0", "P0", "S0", "d0", "f0", "V0", "Int", "__Type", "__typename", "__schema", "skip", "deprecated", "reason", "url", "specifiedBy", strings.Repeat("]", 100), "é"}
}

func oddNumbers() []int {
	return []int{math.MinInt, math.MinInt32, -2, -1, 0, 1, 2, 3, 4, 5, 6, 7, 8, 9, 10, 255, 1 << 16, math.MaxInt32, math.MaxInt}
}

// spoiler changes parts of a value in its place, each with the chance of one in rate.
type spoiler struct {
	r    *rand.Rand
	rate int
	room int // how many lists may still be made
}

func (s *spoiler) spoil(v reflect.Value) {
	switch v.Kind() {
	case reflect.Struct:
		for i := range v.NumField() {
			s.spoil(v.Field(i))
		}
	case reflect.Slice:
		if s.hits() {
			v.Set(s.list(v.Type()))
		}
		for i := range v.Len() {
			s.spoil(v.Index(i))
		}
	case reflect.String:
		if texts := oddTexts(); s.hits() {
			v.SetString(texts[s.r.Intn(len(texts))])
		}
	case reflect.Bool:
		if s.hits() {
			v.SetBool(!v.Bool())
		}
	case reflect.Int:
		if numbers := oddNumbers(); s.hits() {
			v.SetInt(int64(numbers[s.r.Intn(len(numbers))]))
		}
	}
}

func (s *spoiler) hits() bool { return s.r.Intn(s.rate) == 0 }

// list is a list of zero elements, nil among them.
func (s *spoiler) list(t reflect.Type) reflect.Value {
	if s.room == 0 || s.r.Intn(3) == 0 {
		return reflect.Zero(t)
	}
	s.room--
	return reflect.MakeSlice(t, s.r.Intn(3), 3)
}

// asker asks all that comes up, and all that is answered, up to so many handles.
type asker struct {
	types *typesys.Types
	left  int
	seen  map[string]int
	told  []string
}

func (a *asker) ask(v api.Value) {
	for _, item := range v.Items {
		a.ask(item)
	}
	key := v.Type + ":" + v.Text
	if v.Kind != api.KindHandle || a.seen[key] > 0 || a.left == 0 {
		return
	}
	a.seen[key]++
	a.left--
	def, _ := noTypes.Type(v.Type)
	for _, f := range append(def.Fields, api.FieldDef{Name: "nope"}) {
		answer, ok := introspect.Field(a.types, v, f.Name, deprecatedToo())
		a.told = append(a.told, told(answer, ok), told(introspect.Field(a.types, v, f.Name, nil)))
		a.ask(answer)
	}
}

// askAll asks from the root on, and of odd texts too.
func askAll(types *typesys.Types) string {
	a := &asker{types, 600, map[string]int{}, nil}
	for _, own := range oddTexts() {
		typ, _ := introspect.Root(types, "__type", arg("name", text(own)))
		a.ask(typ)
		for _, typ := range objectTypes() {
			a.ask(handle(typ, own))
			a.ask(handle(typ, own+"."+own))
			a.ask(handle(typ, "@"+own+"("+own+")"))
		}
	}
	a.left += 600
	schema, _ := introspect.Root(types, "__schema", nil)
	a.ask(schema)
	return strings.Join(a.told, "\n")
}

// R1: type systems that aren't sound, of definitions that are not even well made: every call ends and none panics, and all answer the same again.
func TestSpoilt(t *testing.T) {
	r := rand.New(rand.NewSource(15))
	for seed := range int64(150) {
		defs := read(t, makeSource(seed))
		s := spoiler{r, 2 + r.Intn(40), 50}
		s.spoil(reflect.ValueOf(&defs).Elem())
		types := typesys.Build(defs)
		if askAll(types) != askAll(types) {
			t.Fatalf("answers were unlike: %#v", defs)
		}
	}
}

// R1: type systems that are well made, but not sound: names twice, roots and types that aren't there, directives twice and without their arguments.
func TestUnsound(t *testing.T) {
	for _, src := range []string{
		"type A{a:Int a:X} type A{b:Int} union U=A|A|X|U interface I implements I&X type A implements I&I",
		"schema{query:X mutation:X} extend schema{query:Y}",
		"scalar S@specifiedBy scalar T@specifiedBy(url:1)@specifiedBy(url:null) scalar Z@specifiedBy(x:[1])",
		"type Query{a:Int@deprecated(reason:1) b:Int@deprecated(reason:[A]) c:Int@deprecated(x:1)@deprecated} enum E{A@deprecated(reason:{}) A}",
		"type Query{__typename:Int __schema(x:Int x:ID):Int __type:Int __a:Int} interface I{__typename:Int} union U input P",
		"type Int{a:Int} directive@skip on FIELD type __Type{a:Int} extend type __Schema{a:Int}",
		"input P{a:P! a:Q b:Int=A} directive@d(x:X=1 x:Y)on FIELD directive@d on QUERY enum E{__A}",
	} {
		types := typesys.Build(read(t, src))
		if askAll(types) != askAll(types) {
			t.Errorf("answers were unlike: %s", src)
		}
	}
}

// nestLit is a literal that is nested far deeper than any source's.
func nestLit(levels int) api.Lit {
	lit := api.Lit{Kind: api.LitInt, Text: "1"}
	for range levels {
		lit = api.Lit{Kind: api.LitList, Items: []api.Lit{lit}}
	}
	return lit
}

// R1: wraps and defaults that are nested far deeper than any source's.
func TestNestedDeep(t *testing.T) {
	const levels = 1 << 15
	lists := strings.Repeat("[", levels)
	s := sound(t, "type Query{a:Int}")
	for _, mark := range []string{"]", "!]", "]!"} {
		marks := strings.Repeat(mark, levels)
		own, kind, ofType := lists+"Query"+marks, "'LIST'", lists[1:]+"Query"+marks[:len(marks)-1]
		if mark == "]!" {
			kind, ofType = "'NON_NULL'", lists+"Query"+marks[:len(marks)-1]
		}
		checkRows(t, s, "P15.3", of("__Type:"+own, "kind", kind, "ofType", "__Type:"+ofType, "name", "null"))
		for _, wrong := range []string{own[1:], "[" + own, own + "!!", own[:len(own)-1] + "x", strings.Replace(own, "Query", "Query!!", 1), strings.Replace(own, "Query", "Nope", 1), strings.Replace(own, "Query", "", 1)} {
			checkRows(t, s, "P15.3", of("__Type:"+wrong, "kind", nothing))
		}
	}
	input := api.InputDef{Name: "x", Type: api.TypeRef{Name: "S"}, HasDefault: true, Default: nestLit(levels)}
	types := typesys.Build([]api.SysDef{{Kind: api.SysInput, Name: "P", Inputs: []api.InputDef{input}}})
	v, ok := introspect.Field(types, handle("__InputValue", "P.x"), "defaultValue", nil)
	if !ok || v.Text != lists+"1"+strings.Repeat("]", levels) {
		t.Error("default:", ok, len(v.Text))
	}
}

// R1: long texts of all forms, of nothing that is there.
func TestLongTexts(t *testing.T) {
	s := sound(t, handled)
	for _, piece := range []string{"[", "]", "!", "]!", "!]", "[!", ".", "(", ")", "()", "@", "a", "Query.", "Query.a(", "@d(", "Query.a(x)", "\xff"} {
		long := strings.Repeat(piece, 1<<15)
		for _, typ := range objectTypes() {
			for _, own := range []string{long, "Query" + long, long + "Query", "Query." + long, "Query.a(" + long + ")", "Query." + long + "(x)", "@d(" + long + ")", "@" + long + "(x)", "P." + long, "E." + long, "@" + long} {
				for _, field := range fieldsOf(t, typ) {
					checkRows(t, s, "R1", of(typ+":"+own, field, nothing))
				}
			}
		}
	}
}

// A great type system: a field's and a reference's answers don't go through the type that they belong to.
func TestManyFields(t *testing.T) {
	const many = 20000
	def := api.SysDef{Kind: api.SysObject, Name: "Query"}
	for i := range many {
		def.Fields = append(def.Fields, api.FieldDef{Name: "f" + string(rune(0x4e00+i)), Type: api.TypeRef{Name: "Query", Wrap: "!"}})
	}
	types := typesys.Build([]api.SysDef{def})
	all, _ := introspect.Field(types, handle("__Type", "Query"), "fields", nil)
	if len(all.Items) != many {
		t.Fatal("fields:", len(all.Items))
	}
	for i, v := range all.Items {
		name, _ := introspect.Field(types, v, "name", nil)
		typ, _ := introspect.Field(types, v, "type", nil)
		inner, _ := introspect.Field(types, typ, "ofType", nil)
		own, _ := introspect.Field(types, inner, "name", nil)
		if name.Text != def.Fields[i].Name || typ.Text != "Query!" || inner.Text != "Query" || own.Text != "Query" {
			t.Fatal("field", i, name, typ, inner, own)
		}
	}
}
