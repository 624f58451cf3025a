package lex_test

import (
	"math"
	"slices"
	"testing"

	"pergola/api"
	"pergola/lex"
)

func wantNext(t *testing.T, chars []rune, clean bool, i int, want api.Token) {
	t.Helper()
	if got := lex.Next(chars, clean, i); got != want {
		t.Errorf("Next(%q, %v, %d) = %+v, want %+v", string(chars), clean, i, got, want)
	}
}

// Example 8, and numbers outside the source.
func TestNextExamples(t *testing.T) {
	abc := []rune("abc")
	wantNext(t, abc, true, 1, api.Token{Kind: api.TokName, Pos: api.Pos{Line: 1, Col: 2}, From: 1, To: 3, Text: "bc"})
	for _, i := range []int{math.MinInt, -1, 0} {
		wantNext(t, abc, true, i, api.Token{Kind: api.TokName, Pos: api.Pos{Line: 1, Col: 1}, To: 3, Text: "abc"})
		wantNext(t, nil, false, i, api.Token{Kind: api.TokBad, Pos: api.Pos{Line: 1, Col: 1}})
		wantNext(t, nil, true, i, api.Token{Kind: api.TokEnd, Pos: api.Pos{Line: 1, Col: 1}})
	}
	for _, i := range []int{3, 4, math.MaxInt} {
		wantNext(t, abc, true, i, api.Token{Kind: api.TokEnd, Pos: api.Pos{Line: 1, Col: 4}, From: 3, To: 3})
		wantNext(t, abc, false, i, api.Token{Kind: api.TokBad, Pos: api.Pos{Line: 1, Col: 4}, From: 3, To: 3})
		wantNext(t, nil, false, i, api.Token{Kind: api.TokBad, Pos: api.Pos{Line: 1, Col: 1}})
	}
}

// From within a token or a comment on, what is there is read as if the source began there.
func TestNextWithin(t *testing.T) {
	for _, c := range []struct {
		src  string
		i    int
		want string
		line int
		col  int
	}{
		{"a1", 1, "i1", 1, 2},
		{"1a", 1, "na", 1, 2},
		{"12", 1, "i2", 1, 2},
		{"102", 1, "B", 1, 2},
		{"-5", 1, "i5", 1, 2},
		{"1.5", 1, "B", 1, 2},
		{"1.5", 2, "i5", 1, 3},
		{"1e5", 1, "ne5", 1, 2},
		{"....", 1, "p...", 1, 2},
		{"...", 1, "B", 1, 2},
		{"\"a\" b", 1, "na", 1, 2},
		{"\"a\" b", 2, "B", 1, 3},
		{"\"\\u0041\"", 1, "B", 1, 2},
		{"\"\\u0041\"", 2, "nu0041", 1, 3},
		{"\"\"\"\"\"\"", 1, "B", 1, 2},
		{"\"\"\"\"\"\"", 4, "s\"\"", 1, 5},
		{"\"\"\"a\nb\"\"\"", 4, "nb", 2, 1},
		{"# a\nb", 1, "na", 1, 3},
		{"# a\nb", 3, "nb", 2, 1},
		{"## a\nb", 1, "nb", 2, 1},
		{"\r\na", 1, "na", 2, 1},
		{"a\r\n", 2, "E", 2, 1},
		{"\r\n\x00", 1, "B", 2, 1},
	} {
		got := lex.Next([]rune(c.src), true, c.i)
		if tok(got) != c.want || got.Pos != (api.Pos{Line: c.line, Col: c.col}) {
			t.Errorf("Next(%q, %d) = %+v, want %s at %d:%d", c.src, c.i, got, c.want, c.line, c.col)
		}
		checkNext(t, []rune(c.src))
	}
}

// Runes that no source has: alone, and in and behind all kinds of tokens.
func TestNextOddRunes(t *testing.T) {
	for _, c := range oddRunes() {
		around := [][]rune{
			{c}, {' ', c}, {c, 'a'}, {'a', c}, {'a', c, 'b'}, {'1', c}, {'1', c, '5'}, {'1', '.', c}, {'-', c}, {'{', c}, {'.', c, '.'}, {'.', '.', c}, {'.', '.', '.', c}, {'#', c}, {'#', c, '\n', 'a'}, {'#', 'a', c, 'b'}, {'"', c, '"'}, {'"', c}, {'"', '\\', c, '"'}, {'"', '"', c}, {'"', '"', c, '"'}, {'"', 'a', '"', c},
			{'"', '"', '"', c, '"', '"', '"'}, {'"', '"', '"', '\\', c, '"', '"', '"'}, {'"', '"', '"', 'a', '"', '"', c}, {'"', '"', '"', 'a', '"', '"', c, '"', '"', '"'}, {'"', '"', '"', '"', '"', '"', c}, {'\r', c, '\n', 'a'}, {c, '\r', '\n', c},
		}
		for _, chars := range around {
			checkNext(t, chars)
		}
	}
	wantNext(t, []rune{'a', -1}, true, 1, api.Token{Kind: api.TokBad, Pos: api.Pos{Line: 1, Col: 2}, From: 1, To: 1})
	wantNext(t, []rune{'\n', 0xD83D, 0xDE00}, true, 0, api.Token{Kind: api.TokBad, Pos: api.Pos{Line: 2, Col: 1}, From: 1, To: 1})
	wantNext(t, []rune{'#', -1}, true, 0, api.Token{Kind: api.TokBad, Pos: api.Pos{Line: 1, Col: 2}, From: 1, To: 1})
	wantNext(t, []rune{'#', 'a'}, false, 0, api.Token{Kind: api.TokBad, Pos: api.Pos{Line: 1, Col: 3}, From: 2, To: 2})
	wantNext(t, []rune{'"', 'a', '"'}, false, 0, api.Token{Kind: api.TokString, Pos: api.Pos{Line: 1, Col: 1}, To: 3, Text: `"a"`, Value: "a"})
	wantNext(t, []rune{'"', -1, '"'}, true, 0, api.Token{Kind: api.TokBad, Pos: api.Pos{Line: 1, Col: 1}})
}

// All short lists of characters, from each number on.
func TestNextEveryShortList(t *testing.T) {
	check := func(chars []rune) { checkNext(t, chars) }
	everyList([]rune{'"', '\\', 'a', '\n'}, 6, check)
	everyList([]rune{'0', '1', '-', '.', 'e', ' '}, 4, check)
	everyList([]rune{'#', '\r', '\n', -1, 'a', ','}, 4, check)
	everyList([]rune{'"', '\\', 'u', '0', 0xD800, -1}, 4, check)
}

// P7.1: each token of a source is the next one from the end of the one ahead of it.
func TestNextIsTokens(t *testing.T) {
	everyText([]string{"\"", "\\", "a1", "-", "...", "#", "\r\n", "\xff"}, 4, func(src string) {
		chars, clean := modelDecode(src)
		i := 0
		list := lex.Tokens([]byte(src))
		for k, want := range list {
			got := lex.Next(chars, clean, i)
			ends := got.Kind == api.TokEnd || got.Kind == api.TokBad
			if got != want || ends != (k == len(list)-1) {
				t.Fatalf("%q: token %d is %+v, Next %+v", src, k, want, got)
			}
			i = got.To
		}
	})
}

// Neither the characters nor the room behind them are changed or looked at.
func TestNextLeavesCharacters(t *testing.T) {
	for _, src := range []string{"", "a", "1", "-", "1.", "1e", "..", "...", "\"", "\"a", "\"\"", "\"\\", "\"\"\"a", "\"\"\"a\"\"", "\"\"\"a\"\"\"", "\"\"\"\\", "#", "#a", "\r", "a\r"} {
		for _, spare := range []string{"a", "1", ".", "\"", "\"\"\"", "\n", "\\\"", "\x00"} {
			full := []rune(src + spare)
			was := slices.Clone(full)
			n := len(full) - len([]rune(spare))
			for _, clean := range []bool{true, false} {
				for i := range n + 1 {
					wantNext(t, full[:n], clean, i, modelNext([]rune(src), clean, i))
				}
			}
			if !slices.Equal(full, was) {
				t.Errorf("%q has become %q", string(was), string(full))
			}
		}
	}
}
