package result_test

import (
	"strconv"
	"strings"
	"testing"

	"pergola/api"
	"pergola/result"
	"pergola/tree"
)

// nested is a value in as many lists and objects, by turns.
func nested(v api.Value, depth int) api.Value {
	for i := range depth {
		if i%2 == 0 {
			v = list(v)
		} else {
			v = object(member("a", v))
		}
	}
	return v
}

// R1: values nested as deep as the document lets them be.
func TestDeepValues(t *testing.T) {
	types := sound(t, chapter)
	const depth = 1<<16 - 1
	deep := nested(whole(7), depth)
	made, errno := result.Leaf(types, "S", deep)
	if errno != api.OK || !tree.Equal(made, deep) {
		t.Error("a deep value:", errno)
	}
	if made, errno = result.Leaf(types, "S", nested(handle("T"), depth)); errno != api.ErrResult || made.Kind != api.KindNull {
		t.Error("a deep value with a handle:", errno)
	}
	for _, name := range append(builtIn(), "E") {
		if _, errno := result.Leaf(types, name, deep); errno != api.ErrResult {
			t.Error(name, "of a deep value:", errno)
		}
	}
}

// R1: long lists, objects and texts.
func TestLongValues(t *testing.T) {
	types := sound(t, chapter)
	const many = 200000
	long := list()
	all := object()
	for i := range many {
		long.Items = append(long.Items, whole(int64(i)))
		all.Fields = append(all.Fields, member("m"+strconv.Itoa(i), text("v")))
	}
	for _, v := range []api.Value{long, all, list(long, all), text(strings.Repeat("\u00e9", many))} {
		made, errno := result.Leaf(types, "S", v)
		if errno != api.OK || !tree.Equal(made, v) {
			t.Error("a long value:", errno)
		}
	}
	all.Fields = append(all.Fields, member("m0", text("v")))
	if _, errno := result.Leaf(types, "S", all); errno != api.ErrResult {
		t.Error("a long object with a name twice:", errno)
	}
	s := strings.Repeat("x\u00e9\U0001F600", many)
	checkLeaf(t, types, "String", []leafRow{{text(s), `"` + s + `"`}, {text(s + "\xff"), "ErrResult"}})
	checkLeaf(t, types, "ID", []leafRow{{text(s), `"` + s + `"`}, {text("\xff" + s), "ErrResult"}})
}

// The objects that a type may stand for are not gone through at each question.
func TestManyObjects(t *testing.T) {
	const many = 20000
	var src, members strings.Builder
	for i := range many {
		src.WriteString("type O" + strconv.Itoa(i) + " implements N {a: Int}\n")
		members.WriteString(" | O" + strconv.Itoa(i))
	}
	types := sound(t, "type Query {a: Int} interface N {a: Int} union U ="+members.String()+"\n"+src.String())
	for i := range api.MostNodes {
		name := "O" + strconv.Itoa(i%many)
		checkRuntime(t, types, []runtimeRow{{"N", handle(name), name}, {"U", handle(name), name}, {name, handle(name), name}, {"N", handle("Query"), "ErrRuntime"}, {"O1", handle("O" + strconv.Itoa(2+i%100)), "ErrRuntime"}})
	}
}

// R1: a great enum.
func TestManyValues(t *testing.T) {
	const many = 20000
	var src strings.Builder
	for i := range many {
		src.WriteString(" V" + strconv.Itoa(i))
	}
	types := sound(t, "type Query {a: Int} enum E {"+src.String()+"}")
	checkLeaf(t, types, "E", []leafRow{{text("V0"), `"V0"`}, {text("V19999"), `"V19999"`}, {text("V20000"), "ErrResult"}, {text("V"), "ErrResult"}})
	for i := range 200 {
		name := "V" + strconv.Itoa(i*97)
		checkLeaf(t, types, "E", []leafRow{{text(name), `"` + name + `"`}, {whole(int64(i)), "ErrResult"}})
	}
}
