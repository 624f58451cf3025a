package copies_test

import (
	"reflect"
	"strconv"
	"testing"

	"pergola/api"
	"pergola/copies"
)

// filler sets every field of a thing to something of its own, with lists of two elements in each list down to a depth.
type filler struct {
	next int
}

func (f *filler) fill(v reflect.Value, depth int) {
	switch v.Kind() {
	case reflect.Struct:
		for i := range v.NumField() {
			f.fill(v.Field(i), depth)
		}
	case reflect.Slice:
		if depth == 0 {
			return
		}
		v.Set(reflect.MakeSlice(v.Type(), 2, 3))
		for i := range 2 {
			f.fill(v.Index(i), depth-1)
		}
	case reflect.String:
		f.next++
		v.SetString("text " + strconv.Itoa(f.next))
	case reflect.Int:
		f.next++
		v.SetInt(int64(f.next))
	case reflect.Bool:
		v.SetBool(true)
	}
}

func filled[T any](depth int) T {
	var thing T
	f := filler{}
	f.fill(reflect.ValueOf(&thing).Elem(), depth)
	return thing
}

// eachList goes through all lists of a thing, those inside of a list ahead of it.
func eachList(v reflect.Value, do func(list reflect.Value)) {
	switch v.Kind() {
	case reflect.Struct:
		for i := range v.NumField() {
			eachList(v.Field(i), do)
		}
	case reflect.Slice:
		for i := range v.Len() {
			eachList(v.Index(i), do)
		}
		do(v)
	}
}

// overwrite writes over all lists of a thing, their spare room too.
func overwrite(thing any) {
	eachList(reflect.ValueOf(thing), func(list reflect.Value) {
		list.Slice(0, list.Cap()).Clear()
	})
}

// check: a copy has every field, shares no list with what it was made of, and stays when that is written over, and the other way round.
func check[T any](t *testing.T, name string, one func(T) T) {
	t.Helper()
	const depth = 4
	want := filled[T](depth)
	thing := filled[T](depth)
	got := one(thing)
	if !reflect.DeepEqual(got, want) {
		t.Errorf("%s: the copy is\n%v\nand not\n%v", name, got, want)
	}
	if !reflect.DeepEqual(thing, want) {
		t.Errorf("%s has changed what it was handed", name)
	}
	shared := map[uintptr]int{}
	for _, whole := range []T{thing, got} {
		eachList(reflect.ValueOf(whole), func(list reflect.Value) {
			if list.Cap() > 0 {
				shared[list.Pointer()]++
			}
		})
	}
	for _, times := range shared {
		if times > 1 {
			t.Errorf("%s: lists are shared", name)
		}
	}
	overwrite(got)
	if !reflect.DeepEqual(thing, want) {
		t.Errorf("%s: what is written into the copy is seen in what it was made of", name)
	}
	got = one(thing)
	overwrite(thing)
	if !reflect.DeepEqual(got, want) {
		t.Errorf("%s: the copy is changed by what is written into what it was made of", name)
	}
	var zero T
	if got := one(zero); !reflect.DeepEqual(got, zero) {
		t.Errorf("%s of the zero value is %v", name, got)
	}
}

func TestCopies(t *testing.T) {
	check(t, "Lit", copies.Lit)
	check(t, "Arg", copies.Arg)
	check(t, "Dir", copies.Dir)
	check(t, "Input", copies.Input)
	check(t, "Field", copies.Field)
	check(t, "EnumValue", copies.EnumValue)
	check(t, "Sys", copies.Sys)
	check(t, "Document", copies.Document)
	check(t, "Flat", copies.Flat[api.Named])
	check(t, "Flat", copies.Flat[string])
	check(t, "List", func(list []api.Lit) []api.Lit { return copies.List(list, copies.Lit) })
}

// A list of no elements is copied as nil, whatever room it has.
func TestCopiesOfNone(t *testing.T) {
	if got := copies.Flat(make([]string, 0, 5)); got != nil {
		t.Errorf("Flat of no elements: %#v", got)
	}
	if got := copies.Sys(api.SysDef{Dirs: make([]api.Dir, 0, 5)}); got.Dirs != nil {
		t.Errorf("Sys without directives: %#v", got)
	}
}

// The room of a copy is no more than its elements take.
func TestNoSpareRoom(t *testing.T) {
	checkNoSpareRoom(t, copies.Sys(filled[api.SysDef](4)))
	checkNoSpareRoom(t, copies.Document(filled[api.Document](4)))
}

func checkNoSpareRoom(t *testing.T, thing any) {
	t.Helper()
	eachList(reflect.ValueOf(thing), func(list reflect.Value) {
		if list.Cap() != list.Len() {
			t.Errorf("a list of %d elements has room for %d", list.Len(), list.Cap())
		}
	})
}
