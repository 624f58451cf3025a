package introspect_test

import (
	"math/rand"
	"slices"
	"strings"
	"testing"

	"pergola/introspect"
	"pergola/typesys"
)

// P15.1 to P15.9: type systems that are made by chance, held against the model.
func TestMade(t *testing.T) {
	for seed := range int64(100) {
		newModel(t, sound(t, makeSource(seed))).holdKnown(t)
	}
	for _, src := range []string{kinds, handled, "type Query{a:Int}"} {
		newModel(t, sound(t, src)).holdKnown(t)
	}
}

// R1: a nil type system, or one that nothing was laid into, is asked as that of no definitions.
func TestNoDefinitions(t *testing.T) {
	m := newModel(t, noTypes)
	m.holdKnown(t)
	for _, types := range []*typesys.Types{nil, {}} {
		for told, page := range m.pages {
			typ, _, _ := strings.Cut(told, ":")
			for _, field := range fieldsOf(t, typ) {
				checkRows(t, types, "R1", of(told, field, page.ask(field, false), field+"+", page.ask(field, true)))
			}
		}
		checkRows(t, types, "R1", []row{{"__Type:Query", "name", nothing}, {"__Type:[Int!]", "kind", "'LIST'"}, {"__Type:[Query]", "kind", nothing}, {"__Field:Query.a", "name", nothing}, {"__Directive:@d", "name", nothing}, {"Query:", "name", nothing}})
		for _, r := range [][2]string{{"Int", "__Type:Int"}, {"__Field", "__Type:__Field"}, {"Query", "null"}, {"", "null"}} {
			if got := told(introspect.Root(types, "__type", arg("name", text(r[0])))); got != r[1] {
				t.Errorf("R1: __type %s: got %s, want %s", r[0], got, r[1])
			}
		}
		if got := told(introspect.Root(types, "__schema", nil)); got != "__Schema:" {
			t.Error("R1: __schema:", got)
		}
		if got := told(introspect.Root(types, "a", nil)); got != nothing {
			t.Error("R1: a:", got)
		}
	}
}

// spoil changes a text in one place: a character is dropped, doubled, exchanged, or comes in.
func spoil(r *rand.Rand, text, other string) string {
	at := r.Intn(len(text) + 1)
	const marks = "[]!.()@ _af0\n\xff"
	mark := string(marks[r.Intn(len(marks))])
	switch r.Intn(6) {
	case 0:
		return text[:at] + mark + text[at:]
	case 1:
		return text[:at] + text[min(at+1, len(text)):]
	case 2:
		return text[:at] + mark + text[min(at+1, len(text)):]
	case 3:
		return text[:at] + text[max(at-1, 0):]
	case 4:
		return "[" + text + "]"
	}
	return text[:at] + other[r.Intn(len(other)+1):]
}

// P15.9: texts of handles with something changed, and texts of one type in handles of another, held against the model: a few are known ones, all others are not.
func TestSpoiltHandles(t *testing.T) {
	known, unknown := 0, 0
	for seed := range int64(10) {
		r := rand.New(rand.NewSource(seed))
		m := newModel(t, sound(t, makeSource(1000+seed)))
		var owns []string
		for told := range m.pages {
			owns = append(owns, told[strings.Index(told, ":")+1:])
		}
		slices.Sort(owns)
		for range 400 {
			own := owns[r.Intn(len(owns))]
			for range r.Intn(3) {
				own = spoil(r, own, owns[r.Intn(len(owns))])
			}
			for _, typ := range objectTypes() {
				if m.hold(t, typ, own) {
					known++
				} else {
					unknown++
				}
			}
		}
	}
	if known < 1000 || unknown < 10000 {
		t.Error("known:", known, "unknown:", unknown)
	}
}

// All small texts of marks around a name, held against the model.
func TestSmallReferences(t *testing.T) {
	m := newModel(t, sound(t, "type Query{a:Int}"))
	known := 0
	var grow func(text string, left int)
	grow = func(text string, left int) {
		if m.hold(t, "__Type", text) {
			known++
		}
		if left == 0 {
			return
		}
		for _, next := range []string{"[", "]", "!", "Int"} {
			grow(text+next, left-1)
		}
	}
	grow("", 5)
	// Int, Int!, [Int], [Int]!, [Int!], [Int!]!, [[Int]]
	if known != 7 {
		t.Error("known:", known)
	}
}
