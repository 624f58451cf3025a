package jsonin_test

import (
	"math"
	"math/rand"
	"strconv"
	"strings"
	"testing"

	"pergola/api"
	"pergola/jsonin"
	"pergola/jsonout"
	"pergola/tree"
)

type valueExample struct {
	src  string
	want api.Value
}

func valueExamples() []valueExample {
	return []valueExample{
		{` {"b":1, "a":[]} `, object(mem("b", num(1)), mem("a", list()))},
		{`"\u0041\uD83D\uDE00\/"`, text("A\U0001f600/")},
		{"-0", num(0)}, {"-0.0", float(minusZero)}, {"1E2", float(100)}, {"9223372036854775808", float(9223372036854775808)},
		{"null", api.Value{}}, {"true", yes(true)}, {"false", yes(false)}, {`""`, text("")}, {"[]", list()}, {"{}", object()},
		{"0", num(0)}, {"0.0", float(0)}, {"1.0", float(1)}, {"1e0", float(1)}, {"-7", num(-7)}, {"9223372036854775807", num(math.MaxInt64)}, {"-9223372036854775808", num(math.MinInt64)}, {"-9223372036854775809", float(-9223372036854775808)},
		{"0e99999999999999999999", float(0)}, {"-1e-999", float(minusZero)}, {"5e-324", float(5e-324)}, {"1.7976931348623157e308", float(math.MaxFloat64)}, {"0.1", float(0.1)}, {"1e+2", float(100)},
		{"[1,[2,[]],null]", list(num(1), list(num(2), list()), api.Value{})}, {"[1 , 2\t,\n3\r]", list(num(1), num(2), num(3))}, {"[[],{},[{}]]", list(list(), object(), list(object()))},
		{`{"z":1,"a":2,"m":3}`, object(mem("z", num(1)), mem("a", num(2)), mem("m", num(3)))}, {`{"a":{"a":{"a":1}}}`, object(mem("a", object(mem("a", object(mem("a", num(1)))))))},
		{`[{"a":1},{"a":2}]`, list(object(mem("a", num(1))), object(mem("a", num(2))))}, {`{"":"","\u0000":"\u0000"}`, object(mem("", text("")), mem("\x00", text("\x00")))},
		{"\r\n\t {\r\n\t \"a\"\r\n\t :\r\n\t [\r\n\t 1\r\n\t ,\r\n\t 2\r\n\t ]\r\n\t ,\r\n\t \"b\":{ } } \r\n\t", object(mem("a", list(num(1), num(2))), mem("b", object()))},
		{`"\"\\\/\b\f\n\r\t"`, text("\"\\/\b\f\n\r\t")}, {`"\u00e9\u00E9é"`, text("ééé")}, {"\"\x7f\xc2\x80\xe2\x80\xa8\xef\xbb\xbf\xf0\x9f\x98\x80\xf4\x8f\xbf\xbf\"", text("\x7f\u0080\u2028\ufeff\U0001f600\U0010ffff")},
		{`"[1,{}]//\u005cu0041"`, text(`[1,{}]//\u0041`)}, {`"\ud800\udc00\udbff\udfff\uD7FF\uE000\uFFFF"`, text("\U00010000\U0010ffff\ud7ff\ue000\uffff")},
	}
}

func TestValueExamples(t *testing.T) {
	for _, c := range valueExamples() {
		wantValue(t, c.src, 9, c.want)
		wantValue(t, " \t\r\n"+c.src+"\n\r\t ", 9, c.want)
		wantValue(t, "["+c.src+","+c.src+"]", 10, list(c.want, c.want))
		wantValue(t, `{"x":`+c.src+`,"y":`+c.src+"}", 10, object(mem("x", c.want), mem("y", c.want)))
	}
}

// All texts of these bytes, as far as they are read.
func TestShortTexts(t *testing.T) {
	told := map[api.Errno]int{}
	for _, c := range []struct {
		start, bytes string
		n            int
	}{
		{"", `[]{},:"a1 `, 6}, {"", "nultrefas[], ", 7}, {`{"a":1,`, `"ab:1,{}[ `, 6}, {`{"a":{"a":1},"\u00`, `"a\u0061:,}`, 5},
		{"", "-+.eE019 ", 7}, {"[1e30", "-+.eE0199, ]", 5}, {"[-0.", "-+.eE09,x", 6}, {`{"a":17`, "-+.eE09,} \"", 5},
	} {
		everyText(c.start, c.bytes, c.n, func(src string) {
			for depth := range 4 {
				told[wantModel(t, src, depth)]++
			}
		})
	}
	for _, e := range []api.Errno{api.OK, api.ErrJson, api.ErrDepth, api.ErrTwice, api.ErrBig} {
		if told[e] < 100 {
			t.Errorf("only %d texts with %d", told[e], e)
		}
	}
}

// Just four bytes are blanks, and they may stand around every part.
func TestBlanks(t *testing.T) {
	parts := []string{"[", "1", ",", "{", `"a"`, ":", "null", ",", `"b"`, ":", "[", "]", "}", ",", "true", ",", "{", "}", "]"}
	want := list(num(1), object(mem("a", api.Value{}), mem("b", list())), yes(true), object())
	for i := range len(parts) + 1 {
		ahead, behind := strings.Join(parts[:i], ""), strings.Join(parts[i:], "")
		for c := range 256 {
			b := string([]byte{byte(c)})
			if strings.Contains(" \t\n\r", b) {
				wantValue(t, ahead+b+behind, 3, want)
				wantValue(t, ahead+b+b+behind, 3, want)
			}
			wantModel(t, ahead+b+behind, 3)
		}
	}
	for _, gap := range []string{" ", "\r\n", strings.Repeat("\t", 1000)} {
		wantValue(t, gap+strings.Join(parts, gap)+gap, 3, want)
	}
	for _, part := range []string{"null", "true", "false", "12", "1.5", "-1", "1e5"} {
		for i := 1; i < len(part); i++ {
			wantModel(t, part[:i]+" "+part[i:], 0)
			wantModel(t, "["+part[:i]+"\n"+part[i:]+"]", 1)
		}
	}
}

// No other letters make a word.
func TestWords(t *testing.T) {
	for _, word := range []string{"null", "true", "false"} {
		for i := range len(word) {
			wantFault(t, word[:i], 9, i, api.ErrJson)
			wantFault(t, "[1,"+word[:i]+"]", 9, i+3, api.ErrJson)
			for c := range 256 {
				wantModel(t, word[:i]+string([]byte{byte(c)})+word[i+1:], 0)
			}
			wantFault(t, word[:i]+strings.ToUpper(word[i:]), 9, i, api.ErrJson)
		}
		for c := range 256 {
			wantModel(t, word+string([]byte{byte(c)}), 0)
		}
	}
	for _, s := range []string{"nan", "NaN", "Infinity", "-Infinity", "undefined", "None", "'a'", "//", "/**/1", "a"} {
		wantModel(t, s, 0)
		wantModel(t, "["+s+"]", 1)
	}
	wantFault(t, "1//", 9, 1, api.ErrJson)
	wantFault(t, "-Infinity", 9, 1, api.ErrJson)
}

func TestLongNumbers(t *testing.T) {
	noughts := strings.Repeat("0", 100000)
	wantValue(t, "0."+noughts+"1e100001", 0, float(1))
	wantValue(t, "[1"+noughts+"e-100000]", 1, list(float(1)))
	wantFault(t, "[ 1"+noughts+"]", 1, 2, api.ErrBig)
	wantFault(t, "1"+noughts+".", 0, 100002, api.ErrJson)
	wantFault(t, "1"+noughts+"e", 0, 100002, api.ErrJson)
	wantFault(t, "1e"+noughts+"999", 0, 0, api.ErrBig)
	wantFault(t, "0"+noughts, 0, 1, api.ErrJson)
}

// What layer 4 writes is read as the same value, at its own depth and at no smaller one.
func TestWrittenIsRead(t *testing.T) {
	source := rand.New(rand.NewSource(51))
	for range 20000 {
		v := random(source, 5)
		src, e := jsonout.Write(v)
		if e != api.OK {
			t.Fatalf("Write(%s): %d", whole(v), e)
		}
		depth := tree.Depth(v)
		wantValue(t, string(src), depth, v)
		wantValue(t, string(src), 300, v)
		wantModel(t, string(src), depth)
		if depth > 0 {
			if e := wantModel(t, string(src), depth-1); e != api.ErrDepth {
				t.Fatalf("%q at depth %d: %d", src, depth-1, e)
			}
		}
	}
}

// spelt writes a value with blanks, escapes and cases as they come.
func spelt(source *rand.Rand, v api.Value) string {
	blanks := []string{"", "", " ", "\n", "\t\r "}
	gap := func() string { return blanks[source.Intn(len(blanks))] }
	var parts []string
	switch v.Kind {
	case api.KindString:
		return gap() + speltText(source, v.Text) + gap()
	case api.KindList:
		for _, x := range v.Items {
			parts = append(parts, spelt(source, x))
		}
		return gap() + "[" + gap() + strings.Join(parts, ",") + "]" + gap()
	case api.KindObject:
		for _, m := range v.Fields {
			parts = append(parts, gap()+speltText(source, m.Name)+gap()+":"+spelt(source, m.Value))
		}
		return gap() + "{" + gap() + strings.Join(parts, ",") + "}" + gap()
	}
	out, _ := jsonout.Write(v)
	return gap() + string(out) + gap()
}

func speltText(source *rand.Rand, s string) string {
	out := `"`
	for _, c := range s {
		plain, _ := jsonout.Text(string(c))
		switch source.Intn(3) {
		case 0:
			out += coded(c)
		case 1:
			out += strings.ReplaceAll(strings.ToUpper(coded(c)), "U", "u")
		default:
			out += plain[1 : len(plain)-1]
		}
	}
	return out + `"`
}

// coded is a character by its number, or by those of its two halves.
func coded(c rune) string {
	if c > 0xffff {
		above := c - 0x10000
		return coded(0xd800+above>>10) + coded(0xdc00+above&0x3ff)
	}
	hex := "000" + strconv.FormatInt(int64(c), 16)
	return `\u` + hex[len(hex)-4:]
}

func TestSpeltOtherwise(t *testing.T) {
	source := rand.New(rand.NewSource(52))
	for range 20000 {
		v := random(source, 4)
		src := spelt(source, v)
		wantValue(t, src, tree.Depth(v), v)
		wantModel(t, src, 4)
	}
}

// Right texts with a few bytes put in, taken out or changed.
func TestSpoiltTexts(t *testing.T) {
	source := rand.New(rand.NewSource(53))
	const bytes = `[]{},:"\/u0123456789abcdefABCDEF-+.eEnrtl` + " \n\t\x00\x1f\x7f\x80\xbf\xc2\xe0\xed\xf0\xf4\xff"
	told := map[api.Errno]int{}
	for range 60000 {
		src := []byte(spelt(source, random(source, 4)))
		for range 1 + source.Intn(3) {
			at, c := source.Intn(len(src)+1), bytes[source.Intn(len(bytes))]
			switch {
			case at < len(src) && source.Intn(3) == 0:
				src[at] = c
			case at < len(src) && source.Intn(2) == 0:
				src = append(src[:at], src[at+1:]...)
			default:
				src = append(src[:at], append([]byte{c}, src[at:]...)...)
			}
		}
		told[wantModel(t, string(src), source.Intn(6))]++
	}
	for _, e := range []api.Errno{api.OK, api.ErrJson, api.ErrDepth} {
		if told[e] < 100 {
			t.Errorf("only %d texts with %d", told[e], e)
		}
	}
}

func TestLongTexts(t *testing.T) {
	const n = 1 << 20
	long := strings.Repeat("a", n)
	wantValue(t, `"`+long+`"`, 0, text(long))
	wantValue(t, `"`+strings.Repeat(`\u0061`, n)+`"`, 0, text(long))
	wantValue(t, `"`+strings.Repeat("é\\n", n)+`"`, 0, text(strings.Repeat("é\n", n)))
	wantFault(t, `"`+long, 0, n+1, api.ErrJson)
	wantFault(t, `"`+long+"\xc3\"", 0, n+2, api.ErrJson)
	wantValue(t, strings.Repeat(" ", n)+"1"+strings.Repeat("\n", n), 0, num(1))
	items, members := list(), object()
	var itemTexts, memberTexts []string
	for i := range n / 4 {
		s := strconv.Itoa(i)
		items.Items = append(items.Items, num(int64(i)))
		itemTexts = append(itemTexts, s)
		members.Fields = append(members.Fields, mem(s, num(int64(i))))
		memberTexts = append(memberTexts, `"`+s+`":`+s)
	}
	wantValue(t, "["+strings.Join(itemTexts, ",")+"]", 1, items)
	wide := "{" + strings.Join(memberTexts, ",")
	wantValue(t, wide+"}", 1, members)
	wantFault(t, wide+`,"\u0030":1}`, 1, len(wide)+1, api.ErrTwice)
}

func TestNothingAtAll(t *testing.T) {
	for _, src := range [][]byte{nil, {}} {
		v, at, e := jsonin.Read(src, 9)
		if whole(v) != whole(api.Value{}) || at != 0 || e != api.ErrJson {
			t.Errorf("Read of nothing: %s, %d, %d", whole(v), at, e)
		}
	}
}
