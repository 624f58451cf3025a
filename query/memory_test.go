package query_test

import (
	"cmp"
	"reflect"
	"runtime"
	"slices"
	"strings"
	"sync"
	"testing"
	"unsafe"

	"pergola/api"
	"pergola/query"
)

const rich = `query Q($v:[Int!]=[1 [2 {b:[3] c:{d:"s"}}]]@a(x:1 y:2)@b @c $w:T={e:1 f:2 g:3}@d){
	h:a(x:[1 $v 3]y:{b:[] c:[4 5]}z:6)@d@e(x:[7])@f{b c{d e f} ...F@g@h @i ...on T@j{g h i} ...{j}}
	k l(x:1) m{n{o{p}q}r}
}
mutation M($x:X $y:Y $z:Z){s t u}
fragment F on T@d(x:{y:{z:[8]}})@e @f{v w{x}y}
{z}`

func parse(t *testing.T, src []byte) api.Document {
	t.Helper()
	doc, fault := query.Parse(src, 9)
	if fault.Kind != api.OK || len(doc.Defs) == 0 {
		t.Fatal(string(src), fault)
	}
	return doc
}

// R3: what is handed in is left as it is; its spare room is neither changed nor looked at.
func TestSourceIsLeft(t *testing.T) {
	for _, src := range []string{rich, "{a", "{a}", "", "{a(x:1)}?"} {
		whole := []byte(src + " b}{c} \"")
		before := slices.Clone(whole)
		got := tell(whole[:len(src)], 9)
		if !slices.Equal(whole, before) {
			t.Errorf("%q was changed: %q", before, whole)
		}
		same(t, src, got, tell([]byte(src), 9))
		same(t, src, got, runModel(src, 9).told)
	}
}

// P9.5: what was handed in isn't looked at behind Parse.
func TestSourceIsNotKept(t *testing.T) {
	src := []byte(rich)
	doc := parse(t, src)
	for i := range src {
		src[i] = '?'
	}
	if !reflect.DeepEqual(doc, parse(t, []byte(rich))) {
		t.Error("the document was changed:", doc)
	}
	src = []byte("{a")
	_, fault := query.Parse(src, 9)
	copy(src, "??")
	same(t, "the fault", tellFault(fault), "syntax 1:3")
}

// list is a list of an answer: the room that it takes, spare room too, and what overwrites all of it.
type list struct {
	name     string
	from, to uintptr
	spoil    func()
}

func listOf[E any](name string, l []E) list {
	l = l[:cap(l)]
	var element E
	from := uintptr(unsafe.Pointer(unsafe.SliceData(l)))
	return list{name, from, from + uintptr(len(l))*unsafe.Sizeof(element), func() { clear(l) }}
}

func listsOfLit(name string, l api.Lit) []list {
	out := []list{listOf(name+" items", l.Items), listOf(name+" fields", l.Fields)}
	for _, item := range l.Items {
		out = append(out, listsOfLit(name+" item", item)...)
	}
	for _, f := range l.Fields {
		out = append(out, listsOfLit(name+" "+f.Name, f.Value)...)
	}
	return out
}

func listsOfDirs(name string, dirs []api.Dir) []list {
	out := []list{listOf(name+" dirs", dirs)}
	for _, d := range dirs {
		out = append(out, listsOfArgs(name+" @"+d.Name, d.Args)...)
	}
	return out
}

func listsOfArgs(name string, args []api.Arg) []list {
	out := []list{listOf(name+" args", args)}
	for _, a := range args {
		out = append(out, listsOfLit(name+" "+a.Name, a.Value)...)
	}
	return out
}

func listsOfSels(name string, sels []api.Sel) []list {
	out := []list{listOf(name+" sels", sels)}
	for _, s := range sels {
		out = append(out, listsOfArgs(name+" "+s.Name, s.Args)...)
		out = append(out, listsOfDirs(name+" "+s.Name, s.Dirs)...)
		out = append(out, listsOfSels(name+" "+s.Name, s.Sels)...)
	}
	return out
}

func listsOf(doc api.Document) []list {
	out := []list{listOf("defs", doc.Defs)}
	for _, d := range doc.Defs {
		out = append(out, listOf(d.Name+" vars", d.Vars))
		for _, v := range d.Vars {
			out = append(out, listsOfLit(d.Name+" $"+v.Name, v.Default)...)
			out = append(out, listsOfDirs(d.Name+" $"+v.Name, v.Dirs)...)
		}
		out = append(out, listsOfDirs(d.Name, d.Dirs)...)
		out = append(out, listsOfSels(d.Name, d.Sels)...)
	}
	return out
}

func tellAll(doc api.Document) string {
	var out strings.Builder
	for _, d := range doc.Defs {
		out.WriteString(tellDef(d))
	}
	return out.String()
}

// P9.5 and R3: every list of an answer is new memory: whatever is done to an answer, those of other calls stay.
func TestAnswersAreNew(t *testing.T) {
	first, second := parse(t, []byte(rich)), parse(t, []byte(rich))
	told := tellAll(first)
	for _, l := range slices.Backward(listsOf(first)) {
		l.spoil()
	}
	same(t, "another answer", tellAll(second), told)
	same(t, "a later answer", tellAll(parse(t, []byte(rich))), told)
	_, fault := query.Parse([]byte("{"), 9)
	fault.Pos[0] = api.Pos{Line: 7}
	_, again := query.Parse([]byte("{"), 9)
	same(t, "another fault", tellFault(again), "syntax 1:2")
}

// R3: no two lists of an answer share memory, spare room neither, those of two answers neither.
func TestListsShareNone(t *testing.T) {
	one, two := parse(t, []byte(rich)), parse(t, []byte(rich))
	lists := append(listsOf(one), listsOf(two)...)
	lists = slices.DeleteFunc(lists, func(l list) bool { return l.from == l.to })
	slices.SortFunc(lists, func(a, b list) int { return cmp.Compare(a.from, b.from) })
	if len(lists) < 70 {
		t.Fatal("lists:", len(lists))
	}
	for i := 1; i < len(lists); i++ {
		if lists[i-1].to > lists[i].from {
			t.Error("shared:", lists[i-1].name, "and", lists[i].name)
		}
	}
	runtime.KeepAlive(one)
	runtime.KeepAlive(two)
}

// R2: calls apart and at the same time, over one source, answer the same.
func TestAtTheSameTime(t *testing.T) {
	src := []byte(rich)
	want := tell(src, 9)
	got := make([]string, 16)
	var group sync.WaitGroup
	for i := range got {
		group.Go(func() {
			got[i] = tell(src, 9)
			tell(src[:i*10], 9)
		})
	}
	group.Wait()
	for _, told := range got {
		same(t, "at the same time", told, want)
	}
	tell([]byte("{a{b"), 1)
	same(t, "behind a fault", tell(src, 9), want)
}
