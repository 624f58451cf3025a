package jsonin_test

import (
	"strings"
	"testing"
	"unicode/utf8"

	"pergola/api"
)

// Every character but those below U+0020, the quote and the backslash stands for itself; every one may be told by its number.
func TestEveryCharacter(t *testing.T) {
	var plain, all, numbers strings.Builder
	for c := rune(0); c <= utf8.MaxRune; c++ {
		if !utf8.ValidRune(c) {
			continue
		}
		if c < 0x20 || c == '"' || c == '\\' {
			wantFaultOfPlain(t, c)
		} else {
			plain.WriteRune(c)
		}
		all.WriteRune(c)
		numbers.WriteString(coded(c))
	}
	wantValue(t, `"`+plain.String()+`"`, 0, text(plain.String()))
	wantValue(t, `"`+numbers.String()+`"`, 0, text(all.String()))
	wantValue(t, `{"`+numbers.String()+`":1}`, 1, object(mem(all.String(), num(1))))
	upper := strings.ReplaceAll(strings.ToUpper(numbers.String()), "U", "u")
	wantValue(t, `"`+upper+`"`, 0, text(all.String()))
}

func wantFaultOfPlain(t *testing.T, c rune) {
	t.Helper()
	at := 2
	if c >= 0x20 {
		at = 3
	}
	wantFault(t, `"a`+string(c)+`x"`, 0, at, api.ErrJson)
	wantFault(t, `{"a`+string(c)+`x":1}`, 1, at+1, api.ErrJson)
}

// Every byte behind a backslash.
func TestEscapes(t *testing.T) {
	means := map[byte]string{'"': `"`, '\\': `\`, '/': "/", 'b': "\b", 'f': "\f", 'n': "\n", 'r': "\r", 't': "\t"}
	for c := range 256 {
		src := `"x\` + string([]byte{byte(c)}) + `y"`
		want, ok := means[byte(c)]
		switch {
		case ok:
			wantValue(t, src, 0, text("x"+want+"y"))
		case c == 'u':
			wantFault(t, src, 0, 4, api.ErrJson)
		default:
			wantFault(t, src, 0, 3, api.ErrJson)
		}
		wantModel(t, src, 0)
	}
	wantFault(t, `"\`, 0, 2, api.ErrJson)
}

// Every number behind \u, alone, and behind and ahead of halves of pairs.
func TestEveryNumber(t *testing.T) {
	for n := range rune(0x10000) {
		one := coded(n)
		first, second := n >= 0xd800 && n <= 0xdbff, n >= 0xdc00 && n <= 0xdfff
		switch {
		case first:
			wantFault(t, `"`+one+`"`, 0, 7, api.ErrJson)
			wantFault(t, `"`+one, 0, 7, api.ErrJson)
			wantFault(t, `"`+one+`a`, 0, 7, api.ErrJson)
			wantFault(t, `"`+one+`\n`, 0, 8, api.ErrJson)
			wantFault(t, `"`+one+one, 0, 10, api.ErrJson)
			wantValue(t, `"`+one+`\uDc00"`, 0, text(string(0x10000+(n-0xd800)*0x400)))
			wantValue(t, `"`+one+`\udFFF"`, 0, text(string(0x10000+(n-0xd800)*0x400+0x3ff)))
		case second:
			wantFault(t, `"`+one+`"`, 0, 4, api.ErrJson)
			wantValue(t, `"\uD800`+one+`"`, 0, text(string(0x10000+n-0xdc00)))
			wantValue(t, `"\uDBFF`+one+`"`, 0, text(string(0x10fc00+n-0xdc00)))
			wantFault(t, `"\uD800`+one+one+`"`, 0, 16, api.ErrJson)
		default:
			wantValue(t, `"`+one+`"`, 0, text(string(n)))
			at := 9
			if n>>12 == 0xd {
				at = 10
			}
			wantFault(t, `"\uD83D`+one+`"`, 0, at, api.ErrJson)
		}
	}
}

// Every byte at the place of every digit, and nothing at its place.
func TestDigits(t *testing.T) {
	for _, right := range []string{`"\u0041"`, `"\ufFfF"`, `"\uD7ff"`, `"\ud83D\uDe00"`, `{"\uE000":"\uDBFF\udfFF"}`} {
		for i := range len(right) {
			wantModel(t, right[:i], 1)
			for c := range 256 {
				b := string([]byte{byte(c)})
				wantModel(t, right[:i]+b+right[i+1:], 1)
				wantModel(t, right[:i]+b+right[i:], 1)
			}
			wantModel(t, right[:i]+right[i+1:], 1)
		}
	}
	everyText(`"\u`, `dD8bBcCfF09g\u"`, 5, func(src string) { wantModel(t, src, 0) })
	everyText(`"\uD9aF`, `dDcF0b\u"7`, 7, func(src string) { wantModel(t, src, 0) })
}

// All groups of up to four of the bytes at which the classes of bytes meet, with all bytes at the first two places.
func TestGroups(t *testing.T) {
	const edges = "\x00\x1f\x20\"A\\\x7f\x80\x8f\x90\x9f\xa0\xbf\xc0\xc1\xc2\xdf\xe0\xe1\xec\xed\xee\xef\xf0\xf1\xf3\xf4\xf5\xf8\xff"
	everyText(`"`, edges, 4, func(src string) {
		wantModel(t, src, 0)
		wantModel(t, src+`"`, 0)
	})
	for c := range 256 {
		for d := range 256 {
			two := string([]byte{byte(c), byte(d)})
			wantModel(t, `"`+two+"\x80\x80\"", 0)
			wantModel(t, `["`+two, 1)
		}
		wantModel(t, string([]byte{byte(c)}), 0)
		wantModel(t, "1"+string([]byte{byte(c)}), 0)
		wantModel(t, "["+string([]byte{byte(c)}), 1)
		wantModel(t, "{"+string([]byte{byte(c)}), 1)
	}
}

func TestIllFormed(t *testing.T) {
	for _, c := range []struct {
		bytes string
		at    int
	}{
		{"\x80", 1}, {"\xbf", 1}, {"\xc0\x80", 1}, {"\xc1\xbf", 1}, {"\xc2", 2}, {"\xc2\xc2\x80", 2}, {"\xe0\x80\x80", 2}, {"\xe0\x9f\xbf", 2}, {"\xe0\xa0", 3}, {"\xed\xa0\x80", 2}, {"\xed\xbf\xbf", 2}, {"\xed\x9f\xc0", 3},
		{"\xf0\x80\x80\x80", 2}, {"\xf0\x8f\xbf\xbf", 2}, {"\xf0\x9f\x98", 4}, {"\xf0\x9f", 3}, {"\xf4\x90\x80\x80", 2}, {"\xf4\x8f\xbf\xff", 4}, {"\xf5\x80\x80\x80", 1}, {"\xf8\x88\x80\x80\x80", 1}, {"\xfe", 1}, {"\xff", 1},
	} {
		wantFault(t, `"`+c.bytes+`"`, 0, c.at, api.ErrJson)
		wantFault(t, `"é\n`+c.bytes+`\n"`, 0, c.at+4, api.ErrJson)
		wantFault(t, `{"`+c.bytes+`":1}`, 1, c.at+1, api.ErrJson)
		wantFault(t, `{"a":1,"a`+c.bytes+`":1}`, 1, c.at+8, api.ErrJson)
		wantFault(t, `"\ufffd`+"\ufffd"+c.bytes, 0, c.at+9, api.ErrJson)
	}
}
