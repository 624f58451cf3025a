package printer_test

import (
	"math/rand"
	"reflect"
	"strings"
	"sync"
	"testing"
	"unsafe"

	"pergola/api"
	"pergola/printer"
)

const richDocument = `{a:b(x:1 y:["s" """t""" {z:$v}])@d(w:E)@e{c}...F@f ...on T@g{h}...{i}}
query Q($a:[Int!]!=[1 2]@x $b:T@y)@q{a}mutation M{m}subscription{s}fragment F on T@d{b}`

const richSystem = `"n" schema@a{query:Q mutation:M subscription:S}scalar S@a(x:1)
"""m""" type T implements A & B @k{"f"a("g" x:Int=1@m """h""" y:E={a:[]}):[Int!]@o b:Int}
interface I implements A{a:A}union U@a=A|B enum E@a{"v"A@b B}input N@a{"w"a:[A]=[1]@a(x:[]) b:B}
directive@z(p:I={q:null})repeatable on FIELD|QUERY extend type T@d`

// R3: what is handed in stays as it is, its spare room too.
func TestHandedInStays(t *testing.T) {
	checkStays(t, documents, richDocument)
	checkStays(t, systems, richSystem)
	checkStays(t, literals, `[1 {a:"b" c:["""d""" E $f]}null true 1.5 []{}]`)
}

func checkStays[T any](t *testing.T, k kind[T], src string) {
	t.Helper()
	thing, twin := roomy(k.parsed(t, src, deep)), roomy(k.parsed(t, src, deep))
	text := k.print(thing)
	if !reflect.DeepEqual(widened(thing), widened(twin)) {
		t.Errorf("%s has changed what it was handed: %v", k.name, thing)
	}
	same(t, "another time", k.print(thing), text)
	same(t, "without spare room", k.print(k.parsed(t, src, deep)), text)
}

// roomy is a copy whose lists all have spare room, with something in it.
func roomy[T any](thing T) T {
	eachList(reflect.ValueOf(&thing).Elem(), func(list reflect.Value) {
		wide := reflect.MakeSlice(list.Type(), 2*list.Len()+2, 2*list.Len()+2)
		for i := range wide.Len() {
			if list.Len() > 0 {
				wide.Index(i).Set(list.Index(i % list.Len()))
			}
		}
		list.Set(wide.Slice(0, list.Len()))
	})
	return thing
}

// widened is a copy whose lists have as elements what stood in their spare room too.
func widened[T any](thing T) T {
	eachList(reflect.ValueOf(&thing).Elem(), func(list reflect.Value) {
		wide := reflect.MakeSlice(list.Type(), list.Cap(), list.Cap())
		reflect.Copy(wide, list.Slice(0, list.Cap()))
		list.Set(wide)
	})
	return thing
}

// eachList hands on every list of a value, the outer ahead of those in it.
func eachList(v reflect.Value, use func(reflect.Value)) {
	switch v.Kind() {
	case reflect.Struct:
		for i := range v.NumField() {
			eachList(v.Field(i), use)
		}
	case reflect.Slice:
		use(v)
		for i := range v.Len() {
			eachList(v.Index(i), use)
		}
	}
}

// R3: a text shares no memory with what was handed in, not even where it is one name.
func TestTextIsNew(t *testing.T) {
	name := strings.Clone("name")
	for what, text := range map[string]string{
		"a type":     printer.Type(api.TypeRef{Name: name}),
		"a mark":     printer.Type(api.TypeRef{Wrap: name}),
		"an enum":    printer.Lit(api.Lit{Kind: api.LitEnum, Text: name}),
		"an int":     printer.Lit(api.Lit{Kind: api.LitInt, Text: name}),
		"a variable": printer.Lit(api.Lit{Kind: api.LitVar, Text: name}),
		"a list":     printer.Lit(api.Lit{Kind: api.LitList, Items: []api.Lit{{Kind: api.LitEnum, Text: name}}}),
	} {
		from := uintptr(unsafe.Pointer(unsafe.StringData(text)))
		kept := uintptr(unsafe.Pointer(unsafe.StringData(name)))
		if from < kept+uintptr(len(name)) && kept < from+uintptr(len(text)) {
			t.Error(what, "shares its text with what was handed in")
		}
	}
}

// P11.3: things that are the same but for places have one text; R4: so have lists that are nil and lists that are empty.
func TestPlacesDoNotCount(t *testing.T) {
	checkPlaces(t, documents, richDocument)
	checkPlaces(t, systems, richSystem)
	checkPlaces(t, literals, `[1 {a:"b" c:["""d""" E $f]}null true 1.5 []{}]`)
	r := rand.New(rand.NewSource(3))
	for seed := range int64(300) {
		document, system := newMaker(seed, r.Intn(60)), newMaker(seed, r.Intn(60))
		document.document()
		system.system()
		checkPlaces(t, documents, document.src.String())
		checkPlaces(t, systems, system.src.String())
	}
}

func checkPlaces[T any](t *testing.T, k kind[T], src string) {
	t.Helper()
	thing := k.parsed(t, src, deep)
	text := k.print(thing)
	for _, pos := range []api.Pos{{}, {Line: 1, Col: 1}, {Line: 7, Col: 99}, {Line: -1, Col: -1}} {
		same(t, "other places", k.print(placed(thing, pos)), text)
	}
	same(t, "other lines", k.print(k.parsed(t, "\n\n ,"+src+"# end", deep)), text)
	eachList(reflect.ValueOf(&thing).Elem(), func(list reflect.Value) {
		if list.Len() == 0 {
			list.Set(reflect.MakeSlice(list.Type(), 0, 3))
		}
	})
	same(t, "empty lists", k.print(thing), text)
}

// R2: calls apart and at the same time, over the same things, answer the same.
func TestAtTheSameTime(t *testing.T) {
	doc, sys := documents.parsed(t, richDocument, deep), systems.parsed(t, richSystem, deep)
	first, second := printer.Document(doc), printer.System(sys)
	got := make([][2]string, 16)
	var group sync.WaitGroup
	for i := range got {
		group.Go(func() { got[i] = [2]string{printer.Document(doc), printer.System(sys)} })
	}
	group.Wait()
	for _, texts := range got {
		if texts != [2]string{first, second} {
			t.Error("at the same time:", texts)
		}
	}
}

// Long sources are printed whole, and in no more than a time that grows as they do.
func TestLong(t *testing.T) {
	const count = 30000
	documents.want(t, "{"+strings.Repeat("a ", count)+"}", "{\n"+strings.Repeat("  a\n", count)+"}\n")
	documents.want(t, strings.Repeat("{a}", count), strings.Repeat("\n{\n  a\n}\n", count)[1:])
	systems.want(t, strings.Repeat("type T{a:A}", count), strings.Repeat("\ntype T {\n  a: A\n}\n", count)[1:])
	literals.want(t, "["+strings.Repeat("1 ", count)+"]", "["+strings.Repeat("1, ", count)[:3*count-2]+"]")
	literals.want(t, "["+strings.Repeat(`"é"`+"\n", count)+"]", "["+strings.Repeat("\"é\", ", count)[:6*count-2]+"]")
}

// The deepest sources that are read.
func TestDeepest(t *testing.T) {
	const most = api.MostDepth
	documents.want(t, strings.Repeat("{a", most)+strings.Repeat("}", most), nested(most))
	literals.want(t, strings.Repeat("[", most)+strings.Repeat("]", most), strings.Repeat("[", most)+strings.Repeat("]", most))
	literals.want(t, strings.Repeat("{a:", most)+"1"+strings.Repeat("}", most), strings.Repeat("{a: ", most)+"1"+strings.Repeat("}", most))
	types.want(t, strings.Repeat("[", most)+"T"+strings.Repeat("]", most), strings.Repeat("[", most)+"T"+strings.Repeat("]", most))
	systems.want(t, "type T{a:"+strings.Repeat("[", most-1)+"T"+strings.Repeat("!]", most-1)+"}", "type T {\n  a: "+strings.Repeat("[", most-1)+"T"+strings.Repeat("!]", most-1)+"\n}\n")
}

// nested is the text of so many selection sets, one in the other.
func nested(levels int) string {
	text := ""
	for level := levels - 1; level >= 0; level-- {
		indent := strings.Repeat("  ", level)
		text = " {\n" + indent + "  a" + text + "\n" + indent + "}"
	}
	return text[1:] + "\n"
}
