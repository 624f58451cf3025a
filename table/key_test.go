package table_test

import (
	"math"
	"testing"

	"pergola/api"
	"pergola/table"
)

type keyRow struct {
	path          []api.Step
	parent, field string
	args          []api.Member
	want          api.Call
}

func checkKeys(t *testing.T, rows []keyRow) {
	t.Helper()
	for _, r := range rows {
		if got, errno := table.Key(r.path, r.parent, r.field, r.args); errno != api.OK || got != r.want {
			t.Errorf("Key(%v, %q, %q, %v) = %s, %d; want %s", r.path, r.parent, r.field, r.args, speltCall(got), errno, speltCall(r.want))
		}
	}
}

// P25.4: the four texts, with the chapter's examples.
func TestKey(t *testing.T) {
	path := steps(name("a"), item(0), name("b"))
	checkKeys(t, []keyRow{
		{path, "T", "b", args(member("x", whole(1))), call("/a/0/b", "T", "b", `{"x":1}`)},
		{path, "T", "b", args(member("x", float(1))), call("/a/0/b", "T", "b", `{"x":1.0}`)},
		{nil, "", "", nil, call("", "", "", "{}")},
		{steps(), "Q", "a", args(), call("", "Q", "a", "{}")},
		{steps(name("q")), "Query", "d", args(member("x", api.Value{})), call("/q", "Query", "d", `{"x":null}`)},
	})
}

// P25.4: Path is layer 3's PathText, whatever the steps are.
func TestKeyPath(t *testing.T) {
	checkKeys(t, []keyRow{
		{steps(name("0"), item(0), name("~/")), "T", "f", nil, call("/~20/0/~0~1", "T", "f", "{}")},
		{steps(name("")), "T", "f", nil, call("/~2", "T", "f", "{}")},
		{steps(item(-7), item(math.MaxInt), item(math.MinInt)), "T", "f", nil, call("/-7/9223372036854775807/-9223372036854775808", "T", "f", "{}")},
		{steps(name("\xff"), name("\x00")), "T", "f", nil, call("/\xff/\x00", "T", "f", "{}")},
		{steps(api.Step{Name: "passed over", Index: 3, Item: true}, api.Step{Name: "k", Index: 9}), "T", "f", nil, call("/3/k", "T", "f", "{}")},
	})
}

// P25.4: Parent and Field as they are handed in, though no type and no field is called so.
func TestKeyNames(t *testing.T) {
	var rows []keyRow
	for _, parent := range oddTexts() {
		for _, field := range oddTexts() {
			rows = append(rows, keyRow{steps(name("k")), parent, field, nil, call("/k", parent, field, "{}")})
		}
	}
	checkKeys(t, append(rows, keyRow{nil, "~/\"", "0~", nil, call("", "~/\"", "0~", "{}")}))
}

// P25.4: Args is layer 4's text, members in their order, without what doesn't count.
func TestKeyArgs(t *testing.T) {
	loud := noisy(api.KindList)
	loud.Items = []api.Value{noisy(api.KindNull), noisy(api.KindBool), noisy(api.KindInt), noisy(api.KindFloat), noisy(api.KindString)}
	for _, r := range []struct {
		args []api.Member
		want string
	}{
		{args(member("b", whole(1)), member("a", whole(2))), `{"b":1,"a":2}`},
		{args(member("a", whole(2)), member("b", whole(1))), `{"a":2,"b":1}`},
		{args(member("", text(""))), `{"":""}`},
		{args(member("a\n\"", text("\x00\\/\u2028"))), `{"a\n\"":"\u0000\\/` + "\u2028" + `"}`},
		{args(member("x", list(truth(true), truth(false), api.Value{}, float(math.Copysign(0, -1)), float(1e21)))), `{"x":[true,false,null,-0.0,1e21]}`},
		{args(member("x", object(member("d", object()), member("c", list()))), member("y", text("x"))), `{"x":{"d":{},"c":[]},"y":"x"}`},
		{args(member("x", object(member("x", whole(math.MinInt64))))), `{"x":{"x":-9223372036854775808}}`},
		{args(member("x", loud)), `{"x":[null,true,7,2.5,"t"]}`},
	} {
		checkKeys(t, []keyRow{{steps(name("k")), "T", "f", r.args, call("/k", "T", "f", r.want)}})
	}
}

// P25.4: what layer 4 refuses, with its error: the first that it finds.
func TestKeyRefused(t *testing.T) {
	bad := text("\xff")
	for _, r := range []struct {
		args []api.Member
		want api.Errno
	}{
		{args(member("x", handle("T", "x"))), api.ErrKind},
		{args(member("x", api.Value{Kind: 8})), api.ErrKind},
		{args(member("x", api.Value{Kind: -1})), api.ErrKind},
		{args(member("x", list(whole(1), object(member("y", handle("", "")))))), api.ErrKind},
		{args(member("x", float(math.NaN()))), api.ErrFloat},
		{args(member("x", float(math.Inf(-1)))), api.ErrFloat},
		{args(member("x", bad)), api.ErrText},
		{args(member("\xff", whole(1))), api.ErrText},
		{args(member("x", object(member("\xc3", whole(1))))), api.ErrText},
		{args(member("x", whole(1)), member("x", whole(1))), api.ErrTwice},
		{args(member("x", whole(1)), member("y", whole(1)), member("x", whole(2))), api.ErrTwice},
		{args(member("x", object(member("y", whole(1)), member("y", whole(1))))), api.ErrTwice},
		{args(member("x", handle("T", "x")), member("x", float(math.NaN()))), api.ErrTwice},
		{args(member("x", handle("T", "x")), member("\xff", float(math.NaN()))), api.ErrText},
		{args(member("x", float(math.NaN())), member("y", handle("T", "x"))), api.ErrFloat},
		{args(member("x", bad), member("y", float(math.NaN()))), api.ErrText},
	} {
		for _, path := range [][]api.Step{nil, steps(name("a"), item(0)), steps(name("\xff"))} {
			if got, errno := table.Key(path, "T", "\xff", r.args); errno != r.want || got != (api.Call{}) {
				t.Errorf("Key(%v) = %s, %d; want %d", r.args, speltCall(got), errno, r.want)
			}
		}
	}
}

// A row is found by the key of the look-up that it answers, and by no other look-up's.
func TestKeyFinds(t *testing.T) {
	path := steps(name("a"), item(0), name("b"))
	given := args(member("x", whole(1)), member("y", float(2)))
	row, _ := table.Key(path, "T", "f", given)
	tab := table.New([]api.Entry{{Call: row, Out: value(whole(7))}})
	for _, r := range []struct {
		path          []api.Step
		parent, field string
		args          []api.Member
		found         bool
	}{
		{steps(name("a"), item(0), name("b")), "T", "f", args(member("x", whole(1)), member("y", float(2))), true},
		{steps(name("a"), api.Step{Name: "b"}, name("b")), "T", "f", given, false},
		{steps(name("a"), name("0"), name("b")), "T", "f", given, false},
		{steps(name("a"), item(1), name("b")), "T", "f", given, false},
		{steps(name("a"), item(0)), "T", "f", given, false},
		{steps(name("a/0/b")), "T", "f", given, false},
		{path, "U", "f", given, false},
		{path, "T", "g", given, false},
		{path, "f", "T", given, false},
		{path, "T", "f", args(member("y", float(2)), member("x", whole(1))), false},
		{path, "T", "f", args(member("x", float(1)), member("y", float(2))), false},
		{path, "T", "f", args(member("x", whole(1)), member("y", whole(2))), false},
		{path, "T", "f", args(member("x", whole(1))), false},
		{path, "T", "f", args(member("x", whole(1)), member("y", float(2)), member("z", api.Value{})), false},
		{path, "T", "f", nil, false},
	} {
		key, errno := table.Key(r.path, r.parent, r.field, r.args)
		if errno != api.OK {
			t.Error(errno)
		}
		if r.found {
			checkFind(t, tab, key, value(whole(7)))
		} else {
			checkMissing(t, tab, key)
		}
	}
}
