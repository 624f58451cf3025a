package batch_test

import (
	"reflect"
	"testing"

	"pergola/api"
	"pergola/batch"
	"pergola/lits"
	"pergola/parts"
	"pergola/sdl"
	"pergola/tree"
	"pergola/typesys"
)

const source = "enum E {A B} scalar S input P {a: Int! p: P e: [E!] = A s: S} type T {a: Int} extend enum E {C}"

// defs are the definitions of the source, each with its extensions' parts.
func defs(t *testing.T) []api.SysDef {
	t.Helper()
	read, fault := sdl.Parse([]byte(source), 9)
	if fault.Kind != api.OK {
		t.Fatal(fault)
	}
	return read
}

// literals stand each on a line of its own, at all types.
func literals(t *testing.T) []batch.Literal {
	t.Helper()
	var all []batch.Literal
	lines := ""
	for _, src := range []string{"1", "null", `"s"`, "A", "C", "D", "1.5", "1e999", "[]", "{}", "[null A]", "[[1]]", "{a: 1}", "{a: null p: {}}", "{a: 1 a: A nope: 1 e: [A D]}", "[{a: 1 p: {a: 2 p: 1}} {a: A}]", "$v", "{a: $v p: $v}", "{k: 1 k: {l: 1 l: 2}}"} {
		for _, want := range []api.TypeRef{{}, {Name: "Int"}, {Name: "E", Wrap: "!"}, {Name: "E", Wrap: "!]"}, {Name: "P"}, {Name: "P", Wrap: "!]!"}, {Name: "S"}, {Name: "T"}, {Name: "Nope", Wrap: "!"}, {Name: "ID", Wrap: "]]"}, {Name: "__TypeKind"}} {
			lines += "\n"
			value, fault := parts.ReadLit([]byte(lines+src), false, 9)
			if fault.Kind != api.OK {
				t.Fatal(src, fault)
			}
			all = append(all, batch.Literal{Value: value, Want: want})
		}
	}
	return all
}

// All literals together have the faults that each has by itself.
func TestFaults(t *testing.T) {
	all := literals(t)
	types := typesys.Build(defs(t))
	var want []api.Fault
	for i, l := range all {
		own := lits.Check(types, l.Value, l.Want)
		want = append(want, own...)
		if got := batch.Faults(defs(t), all[i:i+1]); !reflect.DeepEqual(got, own) && len(got)+len(own) > 0 {
			t.Errorf("%v: got %v, want %v", l, got, own)
		}
	}
	if got := batch.Faults(defs(t), all); !reflect.DeepEqual(got, tree.Faults(want)) || len(got) < 100 {
		t.Errorf("got %v, want %v", got, tree.Faults(want))
	}
}

func TestNothing(t *testing.T) {
	if got := batch.Faults(nil, nil); len(got) != 0 {
		t.Error(got)
	}
	if got := batch.Faults(defs(t), nil); len(got) != 0 {
		t.Error(got)
	}
}

// What is handed in is left as it is, the room behind the definitions too.
func TestLeft(t *testing.T) {
	given, all := defs(t), literals(t)
	room := append(given, api.SysDef{Name: "spare"})
	batch.Faults(room[:len(given)], all)
	if !reflect.DeepEqual(room[:len(given)], defs(t)) || room[len(given)].Name != "spare" || !reflect.DeepEqual(all, literals(t)) {
		t.Error("changed")
	}
}
