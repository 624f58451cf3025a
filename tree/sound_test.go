package tree_test

import (
	"math"
	"math/rand"
	"slices"
	"strconv"
	"testing"
	"unicode/utf8"

	"pergola/api"
	"pergola/tree"
)

// faultOf is Sound by the chapter's words, over the parts in a list.
func faultOf(v api.Value) (string, api.Errno) {
	type part struct {
		at string
		v  api.Value
	}
	var look func(p part) (string, api.Errno)
	look = func(p part) (string, api.Errno) {
		var kids []part
		switch p.v.Kind {
		case api.KindNull, api.KindBool, api.KindInt:
		case api.KindFloat:
			if p.v.Float-p.v.Float != 0 {
				return p.at, api.ErrFloat
			}
		case api.KindString:
			if !utf8.ValidString(p.v.Text) {
				return p.at, api.ErrText
			}
		case api.KindList:
			for i, x := range p.v.Items {
				kids = append(kids, part{p.at + stepsOf(path(item(i))), x})
			}
		case api.KindObject:
			for i, m := range p.v.Fields {
				if !utf8.ValidString(m.Name) {
					return p.at, api.ErrText
				}
				if slices.ContainsFunc(p.v.Fields[:i], func(n api.Member) bool { return n.Name == m.Name }) {
					return p.at, api.ErrTwice
				}
				kids = append(kids, part{p.at + stepsOf(path(name(m.Name))), m.Value})
			}
		default:
			return p.at, api.ErrKind
		}
		for _, k := range kids {
			if at, e := look(k); e != api.OK {
				return at, e
			}
		}
		return "", api.OK
	}
	return look(part{v: v})
}

func TestSoundExamples(t *testing.T) {
	bad, nan := text("\xff"), float(math.NaN())
	cases := []struct {
		v    api.Value
		path string
		e    api.Errno
	}{
		{sample(), "", api.OK}, {api.Value{}, "", api.OK}, {list(), "", api.OK}, {object(), "", api.OK}, {text("é\u2028\U0010ffff\x00"), "", api.OK}, {float(minusZero), "", api.OK}, {float(math.MaxFloat64), "", api.OK},
		{object(mem("x", nan), mem("x", num(1))), "", api.ErrTwice}, {object(mem("x", float(math.Inf(1)))), "/x", api.ErrFloat}, {float(math.Inf(-1)), "", api.ErrFloat}, {nan, "", api.ErrFloat},
		{list(num(1), handle("T", "x")), "/1", api.ErrKind}, {list(api.Value{Kind: 8}), "/0", api.ErrKind}, {api.Value{Kind: -1}, "", api.ErrKind}, {api.Value{Kind: math.MaxInt}, "", api.ErrKind}, {handle("", ""), "", api.ErrKind},
		{list(bad, nan), "/0", api.ErrText}, {list(nan, bad), "/0", api.ErrFloat}, {object(mem("\xc3", bad)), "", api.ErrText}, {object(mem("a", list(list(bad))), mem("b", bad)), "/a/0/0", api.ErrText}, {text("\xed\xa0\x80"), "", api.ErrText},
		{object(mem("a", num(1)), mem("a", num(1)), mem("\xff", num(1))), "", api.ErrTwice}, {object(mem("a", num(1)), mem("\xff", num(1)), mem("a", num(1))), "", api.ErrText}, {object(mem("\xff", num(1)), mem("\xff", num(1))), "", api.ErrText},
		{object(mem("a", bad), mem("\xff", num(1))), "", api.ErrText}, {object(mem("a", nan), mem("b", object(mem("x", num(1)), mem("x", num(1))))), "/a", api.ErrFloat}, {list(object(mem("", num(1)), mem("", num(1))), nan), "/0", api.ErrTwice},
		{object(mem("a", object(mem("a", num(1)))), mem("b", object(mem("a", num(1))))), "", api.OK}, {object(mem("0", list(num(1), nan))), "/~20/1", api.ErrFloat},
		// What a kind doesn't use is passed over.
		{api.Value{Kind: api.KindInt, Text: "\xff", Float: math.NaN(), Items: []api.Value{nan}, Fields: []api.Member{mem("\xff", bad)}}, "", api.OK},
		{api.Value{Kind: api.KindList, Text: "\xff", Float: math.NaN(), Fields: []api.Member{mem("\xff", bad)}}, "", api.OK},
		{api.Value{Kind: api.KindObject, Text: "\xff", Float: math.NaN(), Items: []api.Value{nan}}, "", api.OK},
		{api.Value{Kind: api.KindFloat, Text: "\xff"}, "", api.OK}, {api.Value{Kind: api.KindString, Float: math.NaN(), Type: "\xff"}, "", api.OK},
	}
	for _, c := range cases {
		p, e := tree.Sound(c.v)
		if e != c.e || tree.PathText(p) != c.path {
			t.Errorf("Sound(%s) = %q, %d; want %q, %d", counting(c.v), tree.PathText(p), e, c.path, c.e)
		}
	}
}

func TestSoundOfRandomValues(t *testing.T) {
	source := rand.New(rand.NewSource(21))
	var clean []api.Value
	for _, v := range leaves() {
		if _, e := faultOf(v); e == api.OK {
			clean = append(clean, v)
		}
	}
	few := append(slices.Repeat(clean, 8), leaves()...)
	told := map[api.Errno]int{}
	for range 60000 {
		v := spread(source, few, 4)
		at, e := faultOf(v)
		p, got := tree.Sound(v)
		if got != e || stepsOf(p) != at {
			t.Fatalf("Sound(%s) = %s, %d; want %s, %d", counting(v), stepsOf(p), got, at, e)
		}
		told[e]++
	}
	for _, e := range []api.Errno{api.OK, api.ErrKind, api.ErrFloat, api.ErrText, api.ErrTwice} {
		if told[e] < 100 {
			t.Errorf("only %d values with %d", told[e], e)
		}
	}
}

// spread is a random value whose names are often unlike, now and then twice or no text.
func spread(source *rand.Rand, few []api.Value, depth int) api.Value {
	v := random(source, few, 0)
	n := source.Intn(4)
	switch kind := source.Intn(4); {
	case depth > 0 && kind < 2:
		v = list()
		for range n {
			v.Items = append(v.Items, spread(source, few, depth-1))
		}
	case depth > 0 && kind == 2:
		v = object()
		for i := range n {
			key := strconv.Itoa(i)
			switch source.Intn(20) {
			case 0:
				key = "\xc3"
			case 1:
				key = "0"
			}
			v.Fields = append(v.Fields, mem(key, spread(source, few, depth-1)))
		}
	}
	return v
}

func TestSoundDeepAndWide(t *testing.T) {
	if p, e := tree.Sound(chain(nested-1, num(1))); len(p) != 0 || e != api.OK {
		t.Errorf("deep: %d steps, %d", len(p), e)
	}
	p, e := tree.Sound(chain(nested-1, float(math.NaN())))
	if e != api.ErrFloat || tree.Compare(p, chainPath(nested-1)) != 0 {
		t.Errorf("deep: %d steps, %d", len(p), e)
	}
	const wide = 200000
	var members []api.Member
	for i := range wide {
		members = append(members, mem(strconv.Itoa(i), num(1)))
	}
	if p, e := tree.Sound(object(members...)); len(p) != 0 || e != api.OK {
		t.Errorf("wide: %d steps, %d", len(p), e)
	}
	members[wide-1].Name = "0"
	if p, e := tree.Sound(object(members...)); len(p) != 0 || e != api.ErrTwice {
		t.Errorf("wide: %d steps, %d", len(p), e)
	}
}

func TestSoundPathIsNewMemory(t *testing.T) {
	v := roomy(object(mem("a", list(num(1), list(float(math.NaN()))))))
	was := whole(v)
	for range 2 {
		p, e := tree.Sound(v)
		if e != api.ErrFloat || stepsOf(p) != stepsOf(path(name("a"), item(1), item(0))) {
			t.Fatalf("%s, %d", stepsOf(p), e)
		}
		full := p[:cap(p)]
		for i := range full {
			full[i] = name("scribbled")
		}
	}
	if whole(v) != was || !marks(v) {
		t.Error("Sound has changed what it was handed")
	}
}
