package table_test

import (
	"math"
	"slices"
	"strconv"
	"strings"
	"testing"

	"pergola/api"
	"pergola/table"
)

func truth(is bool) api.Value { return api.Value{Kind: api.KindBool, Bool: is} }

func whole(n int64) api.Value { return api.Value{Kind: api.KindInt, Int: n} }

func float(f float64) api.Value { return api.Value{Kind: api.KindFloat, Float: f} }

func text(s string) api.Value { return api.Value{Kind: api.KindString, Text: s} }

func list(items ...api.Value) api.Value { return api.Value{Kind: api.KindList, Items: items} }

func object(all ...api.Member) api.Value { return api.Value{Kind: api.KindObject, Fields: all} }

func handle(typ, name string) api.Value {
	return api.Value{Kind: api.KindHandle, Type: typ, Text: name}
}

func member(name string, v api.Value) api.Member { return api.Member{Name: name, Value: v} }

func name(s string) api.Step { return api.Step{Name: s} }

func item(i int) api.Step { return api.Step{Index: i, Item: true} }

func steps(all ...api.Step) []api.Step { return all }

func args(all ...api.Member) []api.Member { return all }

func call(path, parent, field, args string) api.Call {
	return api.Call{Path: path, Parent: parent, Field: field, Args: args}
}

func value(v api.Value) api.Outcome { return api.Outcome{Value: v} }

// failure is one beside a value that is passed over.
func failure(v api.Value) api.Outcome { return api.Outcome{Fail: true, Value: v} }

// chapter are the rows of the chapter's examples.
func chapter() []api.Entry {
	return []api.Entry{
		{Call: call("/a", "Query", "a", "{}"), Out: value(whole(1))},
		{Call: call("/a", "Query", "a", "{}"), Out: value(whole(2))},
		{Call: call("/a/0/b", "T", "b", `{"x":1}`), Out: failure(text("v"))},
	}
}

// noisy fills every field of a value; Kind alone says which of them count.
func noisy(kind api.Kind) api.Value {
	return api.Value{Kind: kind, Bool: true, Int: 7, Float: 2.5, Text: "t", Type: "T", Items: []api.Value{whole(1), list(whole(2))}, Fields: []api.Member{member("x", whole(3)), member("x", handle("A", "b"))}}
}

// anyValues are values of all kinds and of none, their edges among them, with what doesn't count at every depth.
func anyValues() []api.Value {
	out := []api.Value{
		{}, truth(true), truth(false), whole(0), whole(-1), whole(math.MinInt64), whole(math.MaxInt64), float(0), float(math.Copysign(0, -1)), float(1), float(math.NaN()),
		float(math.Float64frombits(0x7FF8000000000123)), float(math.Inf(1)), float(math.Inf(-1)), float(5e-324), text(""), text("a"), text("\xff"), text("a\x00b"), handle("", ""), handle("T", "x"), handle("\xff", "\xff"),
		list(), object(), {Kind: api.KindList, Items: []api.Value{}}, {Kind: api.KindObject, Fields: []api.Member{}}, list(list(), object(), list(whole(1))),
		object(member("b", whole(1)), member("a", whole(2)), member("b", whole(3))), object(member("\xff", list(float(math.NaN())))),
	}
	for kind := api.Kind(-1); kind <= 9; kind++ {
		deep := noisy(kind)
		deep.Items = append(deep.Items, noisy(kind), noisy(api.KindNull), noisy(99))
		deep.Fields = append(deep.Fields, member("", noisy(kind)), member("d", noisy(math.MinInt)))
		out = append(out, noisy(kind), deep, list(deep), object(member("k", deep)))
	}
	return out
}

// spelt is the text of all fields of a value, at every depth, whether they count or not.
func spelt(v api.Value) string {
	var out strings.Builder
	spell(&out, v)
	return out.String()
}

func spell(out *strings.Builder, v api.Value) {
	out.WriteString("(" + strconv.Itoa(int(v.Kind)) + strconv.FormatBool(v.Bool) + strconv.FormatInt(v.Int, 10) + " " + strconv.FormatUint(math.Float64bits(v.Float), 16) + strconv.Quote(v.Text) + strconv.Quote(v.Type) + "[")
	for _, x := range v.Items {
		spell(out, x)
	}
	out.WriteString("]{")
	for _, m := range v.Fields {
		out.WriteString(strconv.Quote(m.Name))
		spell(out, m.Value)
	}
	out.WriteString("})")
}

func speltOutcome(out api.Outcome) string {
	return strconv.FormatBool(out.Fail) + spelt(out.Value)
}

func speltCall(c api.Call) string {
	return strconv.Quote(c.Path) + strconv.Quote(c.Parent) + strconv.Quote(c.Field) + strconv.Quote(c.Args)
}

// speltRows are rows with all that is in them.
func speltRows(entries []api.Entry) string {
	var out strings.Builder
	for _, entry := range entries {
		out.WriteString(speltCall(entry.Call) + speltOutcome(entry.Out) + "\n")
	}
	return out.String()
}

// rowsOf are what All yields.
func rowsOf(tab *table.Table) []api.Entry {
	var out []api.Entry
	for c, o := range tab.All() {
		out = append(out, api.Entry{Call: c, Out: o})
	}
	return out
}

// checkFind: the outcome that Find must answer of a key.
func checkFind(t testing.TB, tab *table.Table, c api.Call, want api.Outcome) {
	t.Helper()
	got, ok := tab.Find(c)
	if !ok || speltOutcome(got) != speltOutcome(want) {
		t.Errorf("Find(%s) = %.500s, %v; want %.500s", speltCall(c), speltOutcome(got), ok, speltOutcome(want))
	}
}

func checkMissing(t testing.TB, tab *table.Table, c api.Call) {
	t.Helper()
	if got, ok := tab.Find(c); ok || speltOutcome(got) != speltOutcome(api.Outcome{}) {
		t.Errorf("Find(%s) = %.500s, %v; want none", speltCall(c), speltOutcome(got), ok)
	}
}

func checkIdle(t testing.TB, entries []api.Entry, trace []api.Call, want ...int) {
	t.Helper()
	if got := table.Idle(entries, trace); !slices.Equal(got, want) {
		t.Errorf("Idle of %d rows and %d look-ups = %v; want %v", len(entries), len(trace), got, want)
	}
}

// oddTexts may stand in a key: as they are joined, some texts of several are alike.
func oddTexts() []string {
	return []string{"", "a", "aa", "A", "\x00", "a\x00", " ", "/", "\xff", "é", "e\u0301"}
}

// oddCalls are all keys of four texts.
func oddCalls(texts []string) []api.Call {
	var out []api.Call
	for _, path := range texts {
		for _, parent := range texts {
			for _, field := range texts {
				for _, args := range texts {
					out = append(out, call(path, parent, field, args))
				}
			}
		}
	}
	return out
}
