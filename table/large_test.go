package table_test

import (
	"slices"
	"strconv"
	"strings"
	"testing"

	"pergola/api"
	"pergola/table"
	"pergola/tree"
)

const many = 200000

func numbered(i int) api.Call {
	return call("/e/"+strconv.Itoa(i)+"/a", "Query", "a", "{}")
}

// Many rows, of a key each and of one key.
func TestManyRows(t *testing.T) {
	var rows []api.Entry
	var trace []api.Call
	for i := range many {
		rows = append(rows, api.Entry{Call: numbered(i), Out: value(whole(int64(i)))}, api.Entry{Call: numbered(i / 2), Out: value(text("later"))}, api.Entry{Call: numbered(0), Out: failure(text("later"))})
		trace = append(trace, numbered(many-1-i))
	}
	tab := table.New(rows)
	if tab.Len() != many {
		t.Fatal("Len:", tab.Len())
	}
	n := 0
	for c, o := range tab.All() {
		if c != rows[3*n].Call || o.Fail || o.Value.Int != int64(n) {
			t.Fatal("All yields", speltCall(c), speltOutcome(o), "at", n)
		}
		n++
	}
	for i := range many {
		if o, ok := tab.Find(trace[i]); !ok || o.Value.Int != int64(many-1-i) {
			t.Fatal("Find of", speltCall(trace[i]), speltOutcome(o), ok)
		}
	}
	idle := table.Idle(rows, append(trace, trace...))
	if n != many || len(idle) != 2*many || !slices.IsSorted(idle) || slices.ContainsFunc(idle, func(i int) bool { return i%3 == 0 }) {
		t.Error(n, len(idle))
	}
	if idle := table.Idle(rows, trace[:many-1]); len(idle) != 2*many+1 || idle[0] != 0 {
		t.Error(len(idle), "are idle if the first isn't looked up")
	}
}

// nested is a value in as many lists and objects, by turns.
func nested(v api.Value, depth int) api.Value {
	for i := range depth {
		if i%2 == 0 {
			v = list(v)
		} else {
			v = object(member("a", v))
		}
	}
	return v
}

// R1: values nested as deep as the document lets them be, as outcomes and as arguments.
func TestDeepValues(t *testing.T) {
	const depth = 1<<16 - 1
	c := call("/a", "Q", "a", "{}")
	deep := nested(handle("T", "x"), depth)
	tab := table.New([]api.Entry{{Call: c, Out: value(deep)}})
	if got, ok := tab.Find(c); !ok || got.Fail || !tree.Equal(got.Value, deep) {
		t.Error("Find of a deep value:", ok)
	}
	for _, got := range tab.All() {
		if !tree.Equal(got.Value, deep) {
			t.Error("All yields another value")
		}
	}
	if key, errno := table.Key(nil, "Q", "a", args(member("a", deep))); errno != api.ErrKind || key != (api.Call{}) {
		t.Error("a deep handle:", errno)
	}
	key, errno := table.Key(nil, "Q", "a", args(member("a", nested(whole(7), depth-1))))
	want := `{"a":` + strings.Repeat(`{"a":[`, depth/2) + "7" + strings.Repeat("]}", depth/2) + "}"
	if errno != api.OK || key != call("", "Q", "a", want) {
		t.Error("deep arguments:", errno, len(key.Args), len(want))
	}
}

// R1: long values, texts and paths.
func TestLongValues(t *testing.T) {
	long, all, path := list(), object(), steps()
	for i := range many {
		long.Items = append(long.Items, whole(int64(i)))
		all.Fields = append(all.Fields, member("m"+strconv.Itoa(i), text("v")))
		path = append(path, item(i), name("k"))
	}
	s := strings.Repeat("/x\u00e9", many)
	tab := table.New([]api.Entry{{Call: call(s, s, s, s), Out: value(list(long, all, text(s)))}, {Call: call(s, s, s, s+"x"), Out: failure(long)}})
	if got, ok := tab.Find(call(s, s, s, s)); !ok || !tree.Equal(got.Value, list(long, all, text(s))) {
		t.Error("a long value:", ok)
	}
	checkFind(t, tab, call(s, s, s, s+"x"), api.Outcome{Fail: true})
	checkMissing(t, tab, call(s, s, s, s+"y"))
	key, errno := table.Key(path, s, s, all.Fields)
	if errno != api.OK || key.Parent != s || key.Field != s || strings.Count(key.Path, "/k") != many || !strings.HasSuffix(key.Path, "/199999/k") || !strings.HasSuffix(key.Args, `,"m199999":"v"}`) {
		t.Error("a long key:", errno)
	}
	if key, errno = table.Key(path, s, s, append(all.Fields, all.Fields[0])); errno != api.ErrTwice || key != (api.Call{}) {
		t.Error("many arguments, one twice:", errno)
	}
}
