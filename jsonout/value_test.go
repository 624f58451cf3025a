package jsonout_test

import (
	"bytes"
	"encoding/json"
	"math"
	"math/rand"
	"slices"
	"strconv"
	"strings"
	"testing"

	"pergola/api"
	"pergola/jsonout"
	"pergola/tree"
)

// wantText: Write answers these bytes, and Size their number.
func wantText(t *testing.T, v api.Value, want string) {
	t.Helper()
	if got, e := jsonout.Write(v); string(got) != want || e != api.OK {
		t.Errorf("Write(%s) = %q, %d; want %q", whole(v), got, e, want)
	}
	if n, e := jsonout.Size(v); n != len(want) || e != api.OK {
		t.Errorf("Size(%s) = %d, %d; want %d", whole(v), n, e, len(want))
	}
}

// wantErrno: Write and Size refuse the value with this error, and answer nothing beside it.
func wantErrno(t *testing.T, v api.Value, want api.Errno) {
	t.Helper()
	if got, e := jsonout.Write(v); len(got) != 0 || e != want {
		t.Errorf("Write(%s) = %q, %d; want %d", whole(v), got, e, want)
	}
	if n, e := jsonout.Size(v); n != 0 || e != want {
		t.Errorf("Size(%s) = %d, %d; want %d", whole(v), n, e, want)
	}
}

func TestWriteExamples(t *testing.T) {
	cases := []struct {
		v    api.Value
		want string
	}{
		{api.Value{}, "null"}, {yes(true), "true"}, {yes(false), "false"},
		{num(-7), "-7"}, {num(0), "0"}, {num(math.MaxInt64), "9223372036854775807"}, {num(math.MinInt64), "-9223372036854775808"},
		{float(-7), "-7.0"}, {float(1e21), "1e21"}, {float(minusZero), "-0.0"}, {float(0), "0.0"}, {float(5e-324), "5e-324"}, {float(0.1), "0.1"}, {float(1e20), "100000000000000000000.0"}, {float(math.MaxFloat64), "1.7976931348623157e308"},
		{text(""), `""`}, {text("a\"\\/\b\x0b\x7f\u2028"), "\"a\\\"\\\\/\\b\\u000b\x7f\xe2\x80\xa8\""},
		{list(), "[]"}, {object(), "{}"}, {api.Value{Kind: api.KindList, Items: []api.Value{}}, "[]"}, {api.Value{Kind: api.KindObject, Fields: []api.Member{}}, "{}"},
		{list(num(1)), "[1]"}, {list(num(1), num(2)), "[1,2]"}, {list(list(), list(list())), "[[],[[]]]"}, {list(text(","), api.Value{}, yes(false)), `[",",null,false]`},
		{object(mem("b", list()), mem("a", object()), mem("", api.Value{})), `{"b":[],"a":{},"":null}`},
		{object(mem("b", num(1)), mem("a", num(2))), `{"b":1,"a":2}`}, {object(mem("a", num(2)), mem("b", num(1))), `{"a":2,"b":1}`},
		{object(mem("\n", object(mem("\n", text("\n"))))), `{"\n":{"\n":"\n"}}`}, {object(mem("a", num(1)), mem("A", num(1)), mem("a ", num(1))), `{"a":1,"A":1,"a ":1}`},
		{list(object(mem("a", num(1))), object(mem("a", num(1)))), `[{"a":1},{"a":1}]`},
	}
	for _, c := range cases {
		wantText(t, c.v, c.want)
		wantText(t, junk(c.v), c.want)
		wantText(t, list(junk(c.v), c.v), "["+c.want+","+c.want+"]")
		wantText(t, object(mem("x", c.v), mem("y", junk(c.v))), `{"x":`+c.want+`,"y":`+c.want+"}")
	}
	if n, e := jsonout.Size(object(mem("b", list()), mem("a", object()), mem("", api.Value{}))); n != 23 || e != api.OK {
		t.Errorf("Size = %d, %d; want 23", n, e)
	}
}

func TestWriteRefuses(t *testing.T) {
	bad, infinite := text("\xff"), float(math.Inf(1))
	twice := object(mem("a", num(1)), mem("a", num(1)))
	cases := []struct {
		v api.Value
		e api.Errno
	}{
		{handle("T", "x"), api.ErrKind}, {handle("", ""), api.ErrKind}, {api.Value{Kind: 8}, api.ErrKind}, {api.Value{Kind: -1}, api.ErrKind}, {api.Value{Kind: math.MaxInt}, api.ErrKind}, {api.Value{Kind: math.MinInt}, api.ErrKind}, {api.Value{Kind: 256}, api.ErrKind}, {api.Value{Kind: 1 << 32}, api.ErrKind},
		{infinite, api.ErrFloat}, {float(math.Inf(-1)), api.ErrFloat}, {float(math.NaN()), api.ErrFloat}, {bad, api.ErrText}, {twice, api.ErrTwice},
		{object(mem("a", num(1)), mem("b", num(2)), mem("a", num(3))), api.ErrTwice}, {object(mem("", num(1)), mem("", num(1))), api.ErrTwice},
		// What comes first in the order of the parts is told.
		{list(infinite, bad), api.ErrFloat}, {list(bad, infinite), api.ErrText}, {list(num(1), handle("", ""), bad), api.ErrKind}, {list(twice, bad), api.ErrTwice}, {list(list(list(bad)), infinite), api.ErrText},
		// An object's names come ahead of what stands in it.
		{object(mem("a", bad), mem("b", num(1)), mem("a", num(1))), api.ErrTwice}, {object(mem("a", infinite), mem("\xff", num(1))), api.ErrText}, {object(mem("a", twice), mem("b", infinite)), api.ErrTwice}, {object(mem("a", infinite), mem("b", twice)), api.ErrFloat},
		{object(mem("a", num(1)), mem("a", num(1)), mem("\xff", num(1))), api.ErrTwice}, {object(mem("a", num(1)), mem("\xff", num(1)), mem("a", num(1))), api.ErrText}, {object(mem("\xff", num(1)), mem("\xff", num(1))), api.ErrText},
		{object(mem("a", list(num(1), object(mem("b", handle("", "")))))), api.ErrKind},
	}
	for _, c := range cases {
		wantErrno(t, c.v, c.e)
		wantErrno(t, list(num(1), c.v, api.Value{Kind: 9}), c.e)
		wantErrno(t, object(mem("x", num(1)), mem("y", c.v), mem("z", float(math.NaN()))), c.e)
	}
}

func TestLeaves(t *testing.T) {
	for _, v := range goodLeaves() {
		wantText(t, v, spelt(v))
	}
	for _, v := range badLeaves() {
		_, e := tree.Sound(v)
		if e == api.OK {
			t.Fatalf("%s is sound", whole(v))
		}
		wantErrno(t, v, e)
	}
	for k := api.Kind(-300); k < 300; k++ {
		if k < api.KindNull || k >= api.KindHandle {
			wantErrno(t, junk(api.Value{Kind: k}), api.ErrKind)
		}
	}
}

func TestRandomValues(t *testing.T) {
	source := rand.New(rand.NewSource(41))
	leaves := append(slices.Repeat(goodLeaves(), 5), badLeaves()...)
	told := map[api.Errno]int{}
	for range 60000 {
		v := random(source, leaves, 4)
		_, e := tree.Sound(v)
		if told[e]++; e != api.OK {
			wantErrno(t, v, e)
			continue
		}
		wantText(t, v, spelt(v))
	}
	for _, e := range []api.Errno{api.OK, api.ErrKind, api.ErrFloat, api.ErrText, api.ErrTwice} {
		if told[e] < 100 {
			t.Errorf("only %d values with %d", told[e], e)
		}
	}
}

// readBack is the value that another reader of JSON finds.
func readBack(t *testing.T, from *json.Decoder) api.Value {
	t.Helper()
	token, err := from.Token()
	if err != nil {
		t.Fatal(err)
	}
	switch x := token.(type) {
	case bool:
		return yes(x)
	case string:
		return text(x)
	case json.Number:
		if n, err := x.Int64(); err == nil {
			return num(n)
		}
		f, err := x.Float64()
		if err != nil {
			t.Fatal(err)
		}
		return float(f)
	case json.Delim:
		v := list()
		if x == '{' {
			v = object()
		}
		for from.More() {
			if x == '[' {
				v.Items = append(v.Items, readBack(t, from))
				continue
			}
			name := readBack(t, from)
			v.Fields = append(v.Fields, mem(name.Text, readBack(t, from)))
		}
		if _, err := from.Token(); err != nil {
			t.Fatal(err)
		}
		return v
	}
	return api.Value{}
}

func TestWrittenIsReadBack(t *testing.T) {
	source := rand.New(rand.NewSource(42))
	for range 20000 {
		v := random(source, goodLeaves(), 4)
		out, e := jsonout.Write(v)
		if e != api.OK {
			continue
		}
		if !json.Valid(out) {
			t.Fatalf("%q is no JSON", out)
		}
		from := json.NewDecoder(bytes.NewReader(out))
		from.UseNumber()
		if back := readBack(t, from); !tree.Equal(back, v) {
			t.Fatalf("Write(%s) = %q, which is read as %s", whole(v), out, whole(back))
		}
	}
}

// P4.4 over pairs: few leaves, so that equal values come often.
func TestSameTextJustOfEqualValues(t *testing.T) {
	source := rand.New(rand.NewSource(43))
	values := goodLeaves()
	few := []api.Value{num(1), float(1), text("1"), text(`1,1`), text(`],[`), {}, list(), object()}
	for range 700 {
		values = append(values, random(source, few, 3))
	}
	values = append(values, list(num(1), num(2)), list(num(12)), list(list(num(1)), num(2)), list(num(1), list(num(2))), object(mem("a", num(1)), mem("b", num(2))), object(mem("b", num(2)), mem("a", num(1))), object(mem("a", object(mem("b", num(2))))), object(mem("a", object()), mem("b", num(2))))
	texts := make([][]byte, len(values))
	for i, v := range values {
		texts[i], _ = jsonout.Write(v)
	}
	same := 0
	for i, v := range values {
		for k, w := range values {
			if texts[i] == nil || texts[k] == nil {
				continue
			}
			if bytes.Equal(texts[i], texts[k]) != tree.Equal(v, w) {
				t.Fatalf("%q and %q: Equal is %t", texts[i], texts[k], tree.Equal(v, w))
			}
			if i < k && tree.Equal(v, w) {
				same++
			}
		}
	}
	if same < 100 {
		t.Errorf("only %d pairs of equal values", same)
	}
}

func TestDeepValues(t *testing.T) {
	for core, want := range map[string]api.Value{"1": num(1), "[]": list(), `{"a":1,"b":2}`: object(mem("a", num(1)), mem("b", num(2)))} {
		v, ahead, behind := chain(nested-2, want)
		out, e := jsonout.Write(v)
		if string(out) != ahead+core+behind || e != api.OK {
			t.Errorf("deep: %d bytes, %d", len(out), e)
		}
		if n, e := jsonout.Size(v); n != len(out) || e != api.OK {
			t.Errorf("deep: Size %d, %d", n, e)
		}
	}
	for _, core := range badLeaves() {
		v, _, _ := chain(nested-1, core)
		_, want := tree.Sound(core)
		out, e := jsonout.Write(v)
		n, f := jsonout.Size(v)
		if len(out) != 0 || n != 0 || e != want || f != want {
			t.Errorf("deep: %d bytes, %d; Size %d, %d; want %d", len(out), e, n, f, want)
		}
	}
}

func TestWideValues(t *testing.T) {
	const wide = 200000
	items, members := list(), object()
	var itemTexts, memberTexts []string
	for i := range wide {
		items.Items = append(items.Items, num(int64(i)))
		itemTexts = append(itemTexts, strconv.Itoa(i))
		members.Fields = append(members.Fields, mem(strconv.Itoa(i), num(int64(i))))
		memberTexts = append(memberTexts, `"`+strconv.Itoa(i)+`":`+strconv.Itoa(i))
	}
	for _, c := range []struct {
		v    api.Value
		want string
	}{{items, "[" + strings.Join(itemTexts, ",") + "]"}, {members, "{" + strings.Join(memberTexts, ",") + "}"}} {
		out, e := jsonout.Write(c.v)
		n, f := jsonout.Size(c.v)
		if string(out) != c.want || e != api.OK || n != len(c.want) || f != api.OK {
			t.Errorf("wide: %d bytes, %d; Size %d, %d; want %d", len(out), e, n, f, len(c.want))
		}
	}
	members.Fields[wide-1].Name = "0"
	if out, e := jsonout.Write(members); len(out) != 0 || e != api.ErrTwice {
		t.Errorf("wide: %d bytes, %d; want ErrTwice", len(out), e)
	}
}

func TestWhatIsHandedInIsLeft(t *testing.T) {
	source := rand.New(rand.NewSource(44))
	leaves := append(goodLeaves(), badLeaves()...)
	for range 3000 {
		v := roomy(random(source, leaves, 3))
		was := whole(v)
		jsonout.Write(v)
		jsonout.Size(v)
		if whole(v) != was || !marks(v) {
			t.Fatalf("%s has become %s", was, whole(v))
		}
	}
}

func TestBytesAreNewMemory(t *testing.T) {
	source := rand.New(rand.NewSource(45))
	for _, v := range append(goodLeaves(), random(source, goodLeaves(), 5), list(num(1), text("\n")), object(mem("a", list(yes(true))))) {
		first, e := jsonout.Write(v)
		second, f := jsonout.Write(v)
		if e != f {
			t.Fatalf("Write(%s): %d, then %d", whole(v), e, f)
		}
		want := string(first)
		for _, b := range [][]byte{first, second} {
			full := b[:cap(b)]
			if string(b) != want {
				t.Fatalf("Write(%s) = %q; want %q", whole(v), b, want)
			}
			for i := range full {
				full[i] = '#'
			}
		}
		if third, _ := jsonout.Write(v); string(third) != want {
			t.Fatalf("Write(%s) = %q; want %q", whole(v), third, want)
		}
		if n, _ := jsonout.Size(v); n != len(want) {
			t.Fatalf("Size(%s) = %d; want %d", whole(v), n, len(want))
		}
	}
}

// A refusal leaves nothing behind for the calls that follow.
func TestCallsAreApart(t *testing.T) {
	good, bad := list(text("a"), num(1)), list(text("a"), num(1), float(math.NaN()))
	for range 3 {
		wantText(t, good, `["a",1]`)
		wantErrno(t, bad, api.ErrFloat)
		if s, e := jsonout.Text("\xff"); s != "" || e != api.ErrText {
			t.Errorf("Text = %q, %d", s, e)
		}
		if s, e := jsonout.Text("a"); s != `"a"` || e != api.OK {
			t.Errorf("Text = %q, %d", s, e)
		}
	}
}

// The calls may be made at the same time, over one value.
func TestCallsAtTheSameTime(t *testing.T) {
	good, bad := list(text("a\n"), object(mem("b", num(1)))), list(text("a"), handle("", ""))
	done := make(chan bool)
	const calls = 16
	for range calls {
		go func() {
			ok := true
			for range 500 {
				out, e := jsonout.Write(good)
				n, f := jsonout.Size(bad)
				ok = ok && string(out) == `["a\n",{"b":1}]` && e == api.OK && n == 0 && f == api.ErrKind
			}
			done <- ok
		}()
	}
	for range calls {
		if !<-done {
			t.Error("a call answers otherwise beside others")
		}
	}
}
