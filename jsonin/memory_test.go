package jsonin_test

import (
	"bytes"
	"math/rand"
	"testing"

	"pergola/api"
	"pergola/jsonin"
)

// sources are right and wrong ones.
func sources() []string {
	source := rand.New(rand.NewSource(54))
	var out []string
	for _, c := range valueExamples() {
		out = append(out, c.src)
	}
	for _, c := range faultExamples() {
		out = append(out, c.src)
	}
	for range 500 {
		out = append(out, spelt(source, random(source, 4)))
	}
	return out
}

// Neither the bytes nor the room behind them are changed.
func TestBytesAreLeft(t *testing.T) {
	const spare = "],}\"spare"
	for _, s := range sources() {
		full := []byte(s + spare)
		jsonin.Read(full[:len(s)], 9)
		if string(full) != s+spare {
			t.Errorf("%q has become %q", s+spare, full)
		}
	}
}

// The bytes may be written anew when they have been read.
func TestValueHasItsOwnMemory(t *testing.T) {
	for _, s := range sources() {
		src := []byte(s)
		v, _, _ := jsonin.Read(src, 9)
		was := whole(v)
		copy(src, bytes.Repeat([]byte("#"), len(src)))
		if whole(v) != was {
			t.Errorf("%q: %s has become %s", s, was, whole(v))
		}
	}
}

// spoil writes into all lists of a value, their spare room too.
func spoil(v api.Value) {
	for _, x := range v.Items {
		spoil(x)
	}
	for _, m := range v.Fields {
		spoil(m.Value)
	}
	items, fields := v.Items[:cap(v.Items)], v.Fields[:cap(v.Fields)]
	for i := range items {
		items[i] = text("spoilt")
	}
	for i := range fields {
		fields[i] = mem("spoilt", text("spoilt"))
	}
}

// No two lists share memory, of one value or of two that were read of the same bytes.
func TestListsAreApart(t *testing.T) {
	for _, s := range sources() {
		src := []byte(s)
		first, _, _ := jsonin.Read(src, 9)
		second, _, _ := jsonin.Read(src, 9)
		was := whole(second)
		spoil(first)
		if whole(second) != was {
			t.Fatalf("%q: a second reading has become %s", s, whole(second))
		}
		wantPartsApart(t, s, second)
	}
}

// wantPartsApart spoils one child after the other, and looks whether those behind it stay.
func wantPartsApart(t *testing.T, s string, v api.Value) {
	t.Helper()
	children := append([]api.Value{}, v.Items...)
	for _, m := range v.Fields {
		children = append(children, m.Value)
	}
	for i, child := range children {
		var was []string
		for _, x := range children[i+1:] {
			was = append(was, whole(x))
		}
		wantPartsApart(t, s, child)
		spoil(child)
		for k, x := range children[i+1:] {
			if whole(x) != was[k] {
				t.Fatalf("%q: %s has become %s", s, was[k], whole(x))
			}
		}
	}
}

// A refusal leaves nothing behind for the calls that follow.
func TestCallsAreApart(t *testing.T) {
	for range 3 {
		wantFault(t, "[[[", 3, 3, api.ErrJson)
		wantValue(t, `{"a":[1]}`, 2, object(mem("a", list(num(1)))))
		wantFault(t, `{"a":1,"a":2}`, 2, 7, api.ErrTwice)
	}
}

// The calls may be made at the same time, over the same bytes.
func TestCallsAtTheSameTime(t *testing.T) {
	good, bad := []byte(`{"a":["\u00e9",1.5]}`), []byte(`[1,[2,[3,nil]]]`)
	want := whole(object(mem("a", list(text("é"), float(1.5)))))
	done := make(chan bool)
	const calls = 16
	for range calls {
		go func() {
			ok := true
			for range 500 {
				v, at, e := jsonin.Read(good, 2)
				_, badAt, badErrno := jsonin.Read(bad, 3)
				ok = ok && whole(v) == want && at == 0 && e == api.OK && badAt == 10 && badErrno == api.ErrJson
			}
			done <- ok
		}()
	}
	for range calls {
		if !<-done {
			t.Error("a call answers otherwise beside others")
		}
	}
}
