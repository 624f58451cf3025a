package parts_test

import (
	"slices"
	"sync"
	"testing"

	"pergola/api"
	"pergola/parts"
)

// roomy is a source with spare room behind it, in which a longer source stands.
func roomy(src, behind string) []byte {
	return []byte(src + behind)[:len(src)]
}

const rich = "@a(x:[1 [2 {b:[3] c:{d:\"s\"}}] $v] y:{e:[] f:[4 5]}) @b @c(z:[6]) end"

// P8.10 and R3: what is handed to New is left as it is, its spare room too.
func TestSourceIsLeft(t *testing.T) {
	src := roomy(rich, " @d(w:7) ]")
	whole := src[:cap(src)]
	before := slices.Clone(whole)
	c := parts.New(src, 9)
	c.Dirs(false)
	parts.ReadLit(src, false, 9)
	parts.ReadType(src, 9)
	if !slices.Equal(whole, before) {
		t.Error("the source was changed")
	}
	same(t, "behind the directives", state(c), "nend@1:66 nesting 0 fault ok,false")
	if c = parts.New(roomy("a", " b"), 1); !c.Word("a") || !c.End() {
		t.Error("what stands in the spare room was read:", state(c))
	}
}

// P8.10: what was handed to New isn't looked at behind it.
func TestSourceIsNotKept(t *testing.T) {
	src := []byte(rich)
	c, d := parts.New(src, 9), parts.New([]byte(rich), 9)
	first := c.Token()
	for i := range src {
		src[i] = '?'
	}
	if c.Token() != first {
		t.Error("the token was changed")
	}
	got, _ := c.Dirs(false)
	want, _ := d.Dirs(false)
	same(t, "the directives", tellDirs(got)+state(c), tellDirs(want)+state(d))
	src = []byte("[a \"bcd\"]")
	lit, _ := parts.ReadLit(src, true, 1)
	ref, _ := parts.ReadType(src[1:2], 1)
	copy(src, "?????????")
	same(t, "the literal", tellLit(lit)+tellType(ref), "[@1:1 ea@1:2 s\"bcd\"@1:4 ] a ")
}

// The words that are handed in are left as they are, and not kept.
func TestWordsAreLeft(t *testing.T) {
	words := []string{"b", "a", "c", "spare", "room"}[:3]
	before := slices.Clone(words[:5])
	c := parts.New([]byte("a a a x"), 0)
	c.IsWord(words...)
	c.Name()
	c.WantWord(words...)
	c.Word("a")
	c.Name(words...)
	if !slices.Equal(words[:5], before) {
		t.Error("the words were changed:", words[:5])
	}
	if c = parts.New([]byte("spare"), 0); c.IsWord(words...) {
		t.Error("the spare room was looked at")
	}
	if name, ok := c.Name(words...); !ok || name.Name != "spare" {
		t.Error("the spare room was looked at:", name, ok)
	}
}

// P8.1: each time the fault is new memory.
func TestFaultIsNew(t *testing.T) {
	c := parts.New([]byte(" a"), 0)
	c.Refuse()
	for range 3 {
		fault, _ := c.Fault()
		same(t, "the fault", tellFault(fault), "syntax 1:2")
		for i := range fault.Pos[:cap(fault.Pos)] {
			fault.Pos[:cap(fault.Pos)][i] = api.Pos{Line: 9, Col: 9}
		}
		fault.Path = append(fault.Path, api.Step{})
	}
	one, _ := c.Fault()
	two, _ := c.Fault()
	if &one.Pos[0] == &two.Pos[0] {
		t.Error("two faults share their places")
	}
	_, read := parts.ReadType([]byte("!"), 0)
	_, again := parts.ReadType([]byte("!"), 0)
	read.Pos[0].Line = 7
	same(t, "another call's fault", tellFault(again), "syntax 1:1")
}

// spoilLit overwrites all lists of a literal, the innermost first, and their spare room.
func spoilLit(l api.Lit) {
	for _, item := range l.Items {
		spoilLit(item)
	}
	for _, f := range l.Fields {
		spoilLit(f.Value)
	}
	items, fields := l.Items[:cap(l.Items)], l.Fields[:cap(l.Fields)]
	for i := range items {
		items[i] = api.Lit{Kind: 99, Text: "spoilt"}
	}
	for i := range fields {
		fields[i] = api.LitField{Name: "spoilt"}
	}
}

func spoilArgs(list []api.Arg) {
	for _, a := range list {
		spoilLit(a.Value)
	}
	list = list[:cap(list)]
	for i := range list {
		list[i] = api.Arg{Name: "spoilt"}
	}
}

func spoilDirs(list []api.Dir) {
	for _, d := range list {
		spoilArgs(d.Args)
	}
	list = list[:cap(list)]
	for i := range list {
		list[i] = api.Dir{Name: "spoilt"}
	}
}

// P8.10 and R3: an answer's lists are new memory, and a cursor keeps none of them.
func TestAnswersAreNew(t *testing.T) {
	c := parts.New([]byte(rich+" "+rich), 9)
	d := *c
	first, _ := c.Dirs(false)
	want := tellDirs(first)
	second, _ := d.Dirs(false)
	spoilDirs(first)
	same(t, "the other cursor's answer", tellDirs(second), want)
	same(t, "the cursor", state(c), "nend@1:66 nesting 0 fault ok,false")
	third, _ := parts.New([]byte(rich), 9).Dirs(false)
	same(t, "a further cursor's answer", tellDirs(third), want)
	c.Word("end")
	if list, ok := c.Dirs(false); !ok || len(list) != 3 || list[0].Name != "a" {
		t.Error("the cursor's next answer:", list, ok)
	}
}

// No two lists of an answer share memory, spare room too: each list is spoilt by itself, and the rest stays.
func TestListsShareNone(t *testing.T) {
	read := func() []api.Dir {
		list, ok := parts.New([]byte(rich), 9).Dirs(false)
		if !ok {
			t.Fatal("no directives")
		}
		return list
	}
	// The lists beneath the first directive's first argument are spoilt; the second argument and the other directives stay.
	list := read()
	spoilLit(list[0].Args[0].Value)
	fresh := read()
	same(t, "the second argument", tellLit(list[0].Args[1].Value), tellLit(fresh[0].Args[1].Value))
	same(t, "the further directives", tellDirs(list[1:]), tellDirs(fresh[1:]))
	// Only the spare room of each list.
	spoilRoom(fresh)
	same(t, "all but the spare room", tellDirs(fresh), tellDirs(read()))
	list = read()
	spoilArgs(list[2].Args)
	same(t, "the directives ahead", tellDirs(list[:2]), tellDirs(fresh[:2]))
}

// spoilRoom overwrites the spare room of all lists.
func spoilRoom(list []api.Dir) {
	for i, room := len(list), list[:cap(list)]; i < cap(list); i++ {
		room[i] = api.Dir{Name: "spoilt"}
	}
	for _, d := range list {
		for i, room := len(d.Args), d.Args[:cap(d.Args)]; i < cap(d.Args); i++ {
			room[i] = api.Arg{Name: "spoilt"}
		}
		for _, a := range d.Args {
			spoilLitRoom(a.Value)
		}
	}
}

func spoilLitRoom(l api.Lit) {
	for i, room := len(l.Items), l.Items[:cap(l.Items)]; i < cap(l.Items); i++ {
		room[i] = api.Lit{Kind: 99}
	}
	for i, room := len(l.Fields), l.Fields[:cap(l.Fields)]; i < cap(l.Fields); i++ {
		room[i] = api.LitField{Name: "spoilt"}
	}
	for _, item := range l.Items {
		spoilLitRoom(item)
	}
	for _, f := range l.Fields {
		spoilLitRoom(f.Value)
	}
}

// R2: calls at the same time, over one source, answer as they do alone.
func TestAtTheSameTime(t *testing.T) {
	src := []byte(rich)
	list, _ := parts.New(src, 9).Dirs(false)
	want := tellDirs(list)
	got := make([]string, 16)
	var group sync.WaitGroup
	for i := range got {
		group.Go(func() {
			list, _ := parts.New(src, 9).Dirs(false)
			got[i] = tellDirs(list)
		})
	}
	group.Wait()
	for _, told := range got {
		same(t, "at the same time", told, want)
	}
}
