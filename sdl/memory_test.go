package sdl_test

import (
	"cmp"
	"reflect"
	"runtime"
	"slices"
	"strings"
	"sync"
	"testing"
	"unsafe"

	"pergola/api"
	"pergola/sdl"
)

const rich = `"n" schema@a(x:[1 2 3])@b @c{query:Q mutation:M subscription:S}
scalar S@a(x:1 y:{z:[2]} w:3)@b @c
type T implements A & B & C @a @b @c{
	a(b:[B!]=[1 [2 {b:[3] c:{d:"s"}}]]@a(x:1)@b @c d:D={e:1 f:2 g:3} h:H):A@a@b@c
	"m" i:I j:J
}
interface I implements A & B & C{a:A b:B c:C}
union U@a=A|B|C
enum E@a{a@a@b @c "l"b c}
input N@a{a:[A]=[[] [1] [1 2]]@a(x:[]) b:B c:C}
directive @d(a:A=[1 2]@a@b b:B c:C)repeatable on FIELD|QUERY|ENUM
extend type T implements D & E & F{d:D e:E f:F}`

func parse(t *testing.T, src []byte) []api.SysDef {
	t.Helper()
	defs, fault := sdl.Parse(src, 9)
	if fault.Kind != api.OK || len(defs) == 0 {
		t.Fatal(string(src), fault)
	}
	return defs
}

// R3: what is handed in is left as it is; its spare room is neither changed nor looked at.
func TestSourceIsLeft(t *testing.T) {
	for _, src := range []string{rich, "type T{a:A", "type T{a:A}", "", "union U=A", "enum E{a}?"} {
		whole := []byte(src + " |b}{c} \"")
		before := slices.Clone(whole)
		got := tell(whole[:len(src)], 9)
		if !slices.Equal(whole, before) {
			t.Errorf("%q was changed: %q", before, whole)
		}
		same(t, src, got, tell([]byte(src), 9))
		same(t, src, got, runModel(src, 9).told)
	}
}

// P10.3: what was handed in isn't looked at behind Parse.
func TestSourceIsNotKept(t *testing.T) {
	src := []byte(rich)
	defs := parse(t, src)
	for i := range src {
		src[i] = '?'
	}
	if !reflect.DeepEqual(defs, parse(t, []byte(rich))) {
		t.Error("the definitions were changed:", defs)
	}
	src = []byte("type T{")
	_, fault := sdl.Parse(src, 9)
	copy(src, "???????")
	same(t, "the fault", tellFault(fault), "syntax 1:8")
}

// list is a list of an answer: the room that it takes, spare room too, and what overwrites all of it.
type list struct {
	name     string
	from, to uintptr
	spoil    func()
}

func listOf[E any](name string, l []E) list {
	l = l[:cap(l)]
	var element E
	from := uintptr(unsafe.Pointer(unsafe.SliceData(l)))
	return list{name, from, from + uintptr(len(l))*unsafe.Sizeof(element), func() { clear(l) }}
}

func listsOfLit(name string, l api.Lit) []list {
	out := []list{listOf(name+" items", l.Items), listOf(name+" fields", l.Fields)}
	for _, item := range l.Items {
		out = append(out, listsOfLit(name+" item", item)...)
	}
	for _, f := range l.Fields {
		out = append(out, listsOfLit(name+" "+f.Name, f.Value)...)
	}
	return out
}

func listsOfDirs(name string, dirs []api.Dir) []list {
	out := []list{listOf(name+" dirs", dirs)}
	for _, d := range dirs {
		out = append(out, listsOfArgs(name+" @"+d.Name, d.Args)...)
	}
	return out
}

func listsOfArgs(name string, args []api.Arg) []list {
	out := []list{listOf(name+" args", args)}
	for _, a := range args {
		out = append(out, listsOfLit(name+" "+a.Name, a.Value)...)
	}
	return out
}

func listsOfInputs(name string, inputs []api.InputDef) []list {
	out := []list{listOf(name+" inputs", inputs)}
	for _, d := range inputs {
		out = append(out, listsOfLit(name+" "+d.Name, d.Default)...)
		out = append(out, listsOfDirs(name+" "+d.Name, d.Dirs)...)
	}
	return out
}

func listsOf(defs []api.SysDef) []list {
	out := []list{listOf("defs", defs)}
	for _, d := range defs {
		out = append(out, listOf(d.Name+" ifaces", d.Ifaces), listOf(d.Name+" members", d.Members), listOf(d.Name+" places", d.Places), listOf(d.Name+" roots", d.Roots))
		out = append(out, listOf(d.Name+" fields", d.Fields), listOf(d.Name+" values", d.Values))
		for _, f := range d.Fields {
			out = append(out, listsOfInputs(d.Name+" "+f.Name, f.Args)...)
			out = append(out, listsOfDirs(d.Name+" "+f.Name, f.Dirs)...)
		}
		for _, v := range d.Values {
			out = append(out, listsOfDirs(d.Name+" "+v.Name, v.Dirs)...)
		}
		out = append(out, listsOfInputs(d.Name, d.Inputs)...)
		out = append(out, listsOfDirs(d.Name, d.Dirs)...)
	}
	return out
}

func tellAll(defs []api.SysDef) string {
	var out strings.Builder
	for _, d := range defs {
		out.WriteString(tellDef(d))
	}
	return out.String()
}

// P10.3 and R3: every list of an answer is new memory: whatever is done to an answer, those of other calls stay.
func TestAnswersAreNew(t *testing.T) {
	first, second := parse(t, []byte(rich)), parse(t, []byte(rich))
	told := tellAll(first)
	for _, l := range slices.Backward(listsOf(first)) {
		l.spoil()
	}
	same(t, "another answer", tellAll(second), told)
	same(t, "a later answer", tellAll(parse(t, []byte(rich))), told)
	_, fault := sdl.Parse([]byte("type T{"), 9)
	fault.Pos[0] = api.Pos{Line: 7}
	_, again := sdl.Parse([]byte("type T{"), 9)
	same(t, "another fault", tellFault(again), "syntax 1:8")
}

// R3: no two lists of an answer share memory, spare room neither, those of two answers neither.
func TestListsShareNone(t *testing.T) {
	one, two := parse(t, []byte(rich)), parse(t, []byte(rich))
	lists := append(listsOf(one), listsOf(two)...)
	lists = slices.DeleteFunc(lists, func(l list) bool { return l.from == l.to })
	slices.SortFunc(lists, func(a, b list) int { return cmp.Compare(a.from, b.from) })
	if len(lists) < 70 {
		t.Fatal("lists:", len(lists))
	}
	for i := 1; i < len(lists); i++ {
		if lists[i-1].to > lists[i].from {
			t.Error("shared:", lists[i-1].name, "and", lists[i].name)
		}
	}
	runtime.KeepAlive(one)
	runtime.KeepAlive(two)
}

// R2: calls apart and at the same time, over one source, answer the same.
func TestAtTheSameTime(t *testing.T) {
	src := []byte(rich)
	want := tell(src, 9)
	got := make([]string, 16)
	var group sync.WaitGroup
	for i := range got {
		group.Go(func() {
			got[i] = tell(src, 9)
			tell(src[:i*10], 9)
		})
	}
	group.Wait()
	for _, told := range got {
		same(t, "at the same time", told, want)
	}
	tell([]byte("type T{a(b"), 1)
	same(t, "behind a fault", tell(src, 9), want)
}
