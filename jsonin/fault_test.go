package jsonin_test

import (
	"math"
	"strings"
	"testing"

	"pergola/api"
	"pergola/jsonin"
)

type faultExample struct {
	src       string
	depth, at int
	errno     api.Errno
}

func faultExamples() []faultExample {
	big := strings.Repeat("9", 400)
	return []faultExample{
		{"", 9, 0, api.ErrJson}, {"  ", 9, 2, api.ErrJson},
		{"[1,]", 9, 3, api.ErrJson}, {"[1 2]", 9, 3, api.ErrJson}, {"{1:2}", 9, 1, api.ErrJson}, {`{"a" 1}`, 9, 5, api.ErrJson},
		{"tru", 9, 3, api.ErrJson}, {"trve", 9, 2, api.ErrJson}, {"nul]", 9, 3, api.ErrJson},
		{"01", 9, 1, api.ErrJson}, {"1.", 9, 2, api.ErrJson}, {"1.x", 9, 2, api.ErrJson}, {"-", 9, 1, api.ErrJson}, {"+1", 9, 0, api.ErrJson}, {"1e+", 9, 3, api.ErrJson},
		{"1 1", 9, 2, api.ErrJson}, {"[]]", 9, 2, api.ErrJson}, {`"\x"`, 9, 2, api.ErrJson}, {`"\u00g0"`, 9, 5, api.ErrJson}, {`"a`, 9, 2, api.ErrJson},
		{`"\uDC00"`, 9, 4, api.ErrJson}, {`"\uD800"`, 9, 7, api.ErrJson}, {`"\uD800\u0041"`, 9, 9, api.ErrJson},
		{"\"\xc3\"", 9, 2, api.ErrJson}, {"\"\xe0\x80\"", 9, 2, api.ErrJson}, {"\"\n\"", 9, 1, api.ErrJson}, {"\xff", 9, 0, api.ErrJson},
		{`{"a":1,"\u0061":}`, 9, 7, api.ErrTwice}, {"1e999", 9, 0, api.ErrBig}, {"[1e999x", 9, 1, api.ErrBig}, {"1e999.5", 9, 0, api.ErrBig}, {"1e999e", 9, 0, api.ErrBig},
		{"[[]]", 1, 1, api.ErrDepth}, {"[}", 0, 0, api.ErrDepth}, {"[1}", 1, 2, api.ErrJson},
		// What may not stand ahead of, between and behind the parts.
		{"\xef\xbb\xbf1", 9, 0, api.ErrJson}, {"]", 9, 0, api.ErrJson}, {"}", 9, 0, api.ErrJson}, {",", 9, 0, api.ErrJson}, {":", 9, 0, api.ErrJson}, {"[,1]", 9, 1, api.ErrJson}, {"[1,,2]", 9, 3, api.ErrJson}, {"{,}", 9, 1, api.ErrJson}, {`{"a":1,}`, 9, 7, api.ErrJson}, {`{"a"}`, 9, 4, api.ErrJson}, {`{"a":}`, 9, 5, api.ErrJson}, {`{"a":1 "b":2}`, 9, 7, api.ErrJson}, {`{"a"::1}`, 9, 5, api.ErrJson}, {`{a:1}`, 9, 1, api.ErrJson}, {`{null:1}`, 9, 1, api.ErrJson}, {`["a":1]`, 9, 4, api.ErrJson}, {"[1:2]", 9, 2, api.ErrJson}, {"[}", 9, 1, api.ErrJson}, {"{]", 9, 1, api.ErrJson}, {"{}{}", 9, 2, api.ErrJson}, {"{},", 9, 2, api.ErrJson}, {"'a'", 9, 0, api.ErrJson}, {"\x00", 9, 0, api.ErrJson}, {"1\x00", 9, 1, api.ErrJson}, {"1\f", 9, 1, api.ErrJson}, {"\u00a01", 9, 0, api.ErrJson},
		// The end, wherever it is met.
		{"[", 9, 1, api.ErrJson}, {"[ ", 9, 2, api.ErrJson}, {"[1", 9, 2, api.ErrJson}, {"[1,", 9, 3, api.ErrJson}, {"{", 9, 1, api.ErrJson}, {`{"`, 9, 2, api.ErrJson}, {`{"a`, 9, 3, api.ErrJson}, {`{"a"`, 9, 4, api.ErrJson}, {`{"a":`, 9, 5, api.ErrJson}, {`{"a":1`, 9, 6, api.ErrJson}, {`{"a":1,`, 9, 7, api.ErrJson}, {`"\`, 9, 2, api.ErrJson}, {`"\u`, 9, 3, api.ErrJson}, {`"\u00`, 9, 5, api.ErrJson}, {`"\uD800`, 9, 7, api.ErrJson}, {`"\uD800\`, 9, 8, api.ErrJson}, {`"\uD800\u`, 9, 9, api.ErrJson}, {`"\uD800\uD`, 9, 10, api.ErrJson}, {"\"\xf0\x9f", 9, 3, api.ErrJson}, {"1e", 9, 2, api.ErrJson},
		// A bracket too deep is told where a bracket may stand, and nowhere else.
		{"[]", 0, 0, api.ErrDepth}, {" {", 0, 1, api.ErrDepth}, {"[]", -5, 0, api.ErrDepth}, {`{"a":[]}`, 1, 5, api.ErrDepth}, {"{[", 1, 1, api.ErrJson}, {"{{", 1, 1, api.ErrJson}, {"[1[", 1, 2, api.ErrJson}, {"1[", 0, 1, api.ErrJson}, {"[[", 1, 1, api.ErrDepth}, {"[],[", 1, 2, api.ErrJson}, {"[[],[],[[]]]", 2, 8, api.ErrDepth}, {"[1,2,{", 1, 5, api.ErrDepth}, {`{"a"[`, 1, 4, api.ErrJson}, {`{"a":1,{`, 1, 7, api.ErrJson}, {`["[[[[", [`, 1, 9, api.ErrDepth}, {"]", 0, 0, api.ErrJson},
		// A key that stands twice is told behind its closing quote, ahead of all that follows.
		{`{"a":1,"a":2}`, 9, 7, api.ErrTwice}, {`{"a":1,"a"`, 9, 7, api.ErrTwice}, {`{"a":1,"a"x`, 9, 7, api.ErrTwice}, {`{"a":1,"a`, 9, 9, api.ErrJson}, {`{"a":1, "a\x`, 9, 11, api.ErrJson}, {`{"a":1,  "a":[[[`, 1, 9, api.ErrTwice}, {`{"":1,"":1}`, 9, 6, api.ErrTwice}, {`{"a":1,"b":2,"c":3,"b":4,"a":5}`, 9, 19, api.ErrTwice}, {`{"a":{"b":1,"b":1},"a":1}`, 9, 12, api.ErrTwice}, {`{"a":{"a":1},"a":1}`, 9, 13, api.ErrTwice}, {`[{"a":1},{"a":1,"\u0061":1}]`, 9, 16, api.ErrTwice}, {`{"\u00e9":1,"é":1}`, 9, 12, api.ErrTwice}, {`{"\ud83d\ude00":1,"` + "\U0001f600" + `":1}`, 9, 18, api.ErrTwice}, {`{"/":1,"\/":1}`, 9, 7, api.ErrTwice}, {`{"\n":1,"\u000A":1}`, 9, 8, api.ErrTwice},
		{`{"a":1e999,"a":1}`, 9, 5, api.ErrBig}, {`{"a":1,"a":1e999}`, 9, 7, api.ErrTwice}, {`{"a":[],"a":1}`, 1, 5, api.ErrDepth}, {`{"a":1,"a":[]}`, 1, 7, api.ErrTwice}, {`{"a":x,"a":1}`, 9, 5, api.ErrJson},
		// A number too great is told behind its last byte, ahead of what follows and behind what is wrong in it.
		{"-1e999", 9, 0, api.ErrBig}, {"[1,1e999,1e999]", 9, 3, api.ErrBig}, {"1e999 x", 9, 0, api.ErrBig}, {"[1e999", 9, 1, api.ErrBig}, {"[1e999[", 1, 1, api.ErrBig}, {`{"a":1e999:`, 9, 5, api.ErrBig}, {big, 9, 0, api.ErrBig}, {"-" + big, 9, 0, api.ErrBig}, {big + ".", 9, 401, api.ErrJson}, {big + ".x", 9, 401, api.ErrJson}, {big + ".5x", 9, 0, api.ErrBig}, {big + "e", 9, 401, api.ErrJson}, {big + "e+]", 9, 402, api.ErrJson}, {"0" + big, 9, 1, api.ErrJson}, {"1e999+", 9, 0, api.ErrBig}, {"1e+999-", 9, 0, api.ErrBig}, {"1.7976931348623159e308", 9, 0, api.ErrBig}, {"179769313486231580794" + strings.Repeat("0", 288), 9, 0, api.ErrBig},
	}
}

// found is the place by which the fault of an example has been found, whatever stands behind.
func (c faultExample) found() int {
	switch c.errno {
	case api.ErrTwice:
		return c.at + len(tokens.FindString(c.src[c.at:]))
	case api.ErrBig:
		return c.at + len(numbers.FindString(c.src[c.at:])) + 1
	}
	return c.at + 1
}

func TestFaultExamples(t *testing.T) {
	for _, c := range faultExamples() {
		wantFault(t, c.src, c.depth, c.at, c.errno)
		wantModel(t, `[{"a":1},{"b":[`+c.src, max(c.depth, 0)+3)
		wantModel(t, `[{"a":1},{"b":`+c.src, max(c.depth, 0)+2)
	}
}

// Behind the first fault nothing is looked at.
func TestNothingBehindTheFault(t *testing.T) {
	for _, c := range faultExamples() {
		end := c.found()
		if end > len(c.src) {
			continue
		}
		for _, tail := range []string{"", "]", "}", "\"", "\xff", "[[[[[[[[[[", "1e999", `,"a":1,"a":2`, strings.Repeat("[", 1000)} {
			wantFault(t, c.src[:end]+tail, c.depth, c.at, c.errno)
		}
	}
}

// Every beginning of a text that is none yet lacks its end.
func TestBeginnings(t *testing.T) {
	for _, c := range valueExamples() {
		for i := range len(c.src) {
			wantModel(t, c.src[:i], 9)
			wantModel(t, "["+c.src[:i], 9)
		}
		wantFault(t, "["+c.src, 9, 1+len(c.src), api.ErrJson)
	}
	const src = ` {"b" : [ true , null , "\u0041\uD83D\uDE00\/é" , -1.5e+7 , { } ] , "a" : [ [ ] ] } `
	for i := range len(src) - 2 {
		wantFault(t, src[:i], 9, i, api.ErrJson)
	}
}

func TestDepth(t *testing.T) {
	kinds := []struct {
		open, shut string
		brackets   []int
	}{{"[", "]", []int{0}}, {`{"a":`, "}", []int{0}}, {`[1,{"a":2,"b":`, "},[]]", []int{0, 3}}}
	for _, k := range kinds {
		for n := range 203 {
			src := strings.Repeat(k.open, n) + "1" + strings.Repeat(k.shut, n)
			for _, depth := range []int{math.MinInt, -1, 0, 1, n - 1, n, n + 1, 2*n - 1, 2 * n, 199, 200, 201, math.MaxInt} {
				bound, each := min(max(depth, 0), 200), len(k.brackets)
				if n*each > bound {
					wantFault(t, src, depth, bound/each*len(k.open)+k.brackets[bound%each], api.ErrDepth)
				} else {
					wantValue(t, src, depth, otherReading(t, src))
				}
			}
		}
	}
	wantFault(t, strings.Repeat("[", 1<<20), math.MaxInt, 200, api.ErrDepth)
	wantFault(t, strings.Repeat("[", 200), math.MaxInt, 200, api.ErrJson)
	wantFault(t, strings.Repeat("[", 200)+"}", 200, 200, api.ErrJson)
}

// Brackets that were shut leave their room to others, and a list's number of items does not count.
func TestRoomIsGivenBack(t *testing.T) {
	const n = 10000
	for _, pair := range []string{"[]", "{}", "[1]", `{"a":1}`} {
		src := "[" + strings.Repeat(pair+",", n) + pair + "]"
		if v, at, e := jsonin.Read([]byte(src), 2); len(v.Items) != n+1 || at != 0 || e != api.OK {
			t.Errorf("%d pairs %s: %d, %d", n, pair, at, e)
		}
		wantFault(t, src, 1, 1, api.ErrDepth)
		wantFault(t, src[:len(src)-1]+",[[", 2, len(src)+1, api.ErrDepth)
	}
}

// Keys are the same by their texts' bytes alone.
func TestKeysThatAreNotTheSame(t *testing.T) {
	for _, keys := range [][]string{{"a", "A"}, {"a", "a "}, {"a", "aa"}, {"", " "}, {"é", `e\u0301`}, {"\ufb01", "fi"}, {"1", "1.0"}, {"a", `\u00e4`}, {`\\u0061`, "a"}, {`\u0000`, ""}, {"null", "\ufeffnull"}, {"K", "\u212a"}} {
		src := `{"` + keys[0] + `":1,"` + keys[1] + `":1}`
		if v, at, e := jsonin.Read([]byte(src), 1); len(v.Fields) != 2 || at != 0 || e != api.OK {
			t.Errorf("%q: %d, %d", src, at, e)
		}
		wantModel(t, src, 1)
		twice := src[:len(src)-1] + `,"` + keys[0] + `":1}`
		wantFault(t, twice, 1, len(src), api.ErrTwice)
	}
}
