package lex_test

import (
	"math"
	"slices"
	"strings"
	"testing"

	"pergola/api"
	"pergola/lex"
)

// tok is a token in short: its kind's letter and its characters.
func tok(t api.Token) string {
	return string("EBpnifsk"[t.Kind]) + t.Text
}

// told is a list of tokens in short.
func told(list []api.Token) string {
	var out []string
	for _, t := range list {
		out = append(out, tok(t))
	}
	return strings.Join(out, " ")
}

// wantTokens holds the tokens of a source against their short form and against the place of the last one.
func wantTokens(t *testing.T, src, want string, line, col int) {
	t.Helper()
	list := lex.Tokens([]byte(src))
	if len(list) == 0 {
		t.Errorf("Tokens(%q): none", src)
		return
	}
	last := list[len(list)-1].Pos
	if told(list) != want || last != (api.Pos{Line: line, Col: col}) {
		t.Errorf("Tokens(%q) = %s, last at %v; want %s, %d:%d", src, told(list), last, want, line, col)
	}
	checkTokens(t, src)
}

// wantBad: the source has no token but a bad one, at its first character.
func wantBad(t *testing.T, src string) {
	t.Helper()
	wantTokens(t, src, "B", 1, 1)
}

// wantValue: the source is one string with that value.
func wantValue(t *testing.T, src string, kind api.TokKind, value string) {
	t.Helper()
	list := lex.Tokens([]byte(src))
	n := len([]rune(src))
	if len(list) != 2 || list[1].Kind != api.TokEnd || list[0] != (api.Token{Kind: kind, Pos: api.Pos{Line: 1, Col: 1}, To: n, Text: src, Value: value}) {
		t.Errorf("Tokens(%q) = %+v, want the value %q", src, list, value)
	}
	checkTokens(t, src)
}

// checkTokens holds Tokens against the model.
func checkTokens(t *testing.T, src string) {
	t.Helper()
	got, want := lex.Tokens([]byte(src)), modelTokens(src)
	if !slices.Equal(got, want) {
		t.Fatalf("Tokens(%q)\n= %+v,\nwant %+v", src, got, want)
	}
}

// checkNext holds Next, from each number on, against the model.
func checkNext(t *testing.T, chars []rune) {
	t.Helper()
	for _, clean := range []bool{true, false} {
		for i := -1; i <= len(chars)+1; i++ {
			got, want := lex.Next(chars, clean, i), modelNext(chars, clean, i)
			if got != want {
				t.Fatalf("Next(%x, %v, %d)\n= %+v,\nwant %+v", chars, clean, i, got, want)
			}
		}
	}
}

// everyText hands on all texts of at most length pieces out of the alphabet.
func everyText(alphabet []string, length int, use func(string)) {
	var grow func(s string, room int)
	grow = func(s string, room int) {
		use(s)
		if room == 0 {
			return
		}
		for _, piece := range alphabet {
			grow(s+piece, room-1)
		}
	}
	grow("", length)
}

// everyList hands on all lists of at most length runes out of the alphabet.
func everyList(alphabet []rune, length int, use func([]rune)) {
	var grow func(list []rune)
	grow = func(list []rune) {
		use(list)
		if len(list) == length {
			return
		}
		for _, c := range alphabet {
			grow(append(slices.Clip(list), c))
		}
	}
	grow(nil)
}

// isSource: may c stand in a source? (By the numbers of chapter 1.)
func isSource(c rune) bool {
	return c == 9 || c == 0xA || c == 0xD || c >= 0x20 && c <= 0xD7FF || c >= 0xE000 && c <= 0xFFFF
}

// oddRunes are runes that a source can't have, and those at the edges of what it can; and runes that are a character of some rule but for their high bits.
func oddRunes() []rune {
	odd := []rune{math.MinInt32, -0x10000, -3, -2, -1, 0, 1, 8, 0xB, 0xC, 0xE, 0x1F, 0x7F, 0x80, 0x85, 0xA0, 0x2028, 0xD7FF, 0xD800, 0xDBFF, 0xDC00, 0xDFFF, 0xE000, 0xFEFE, 0xFEFF, 0xFF00, 0xFFFD, 0xFFFE, 0xFFFF, 0x10000, 0x1F600, 0x10FFFF, 0x110000, math.MaxInt32}
	for _, c := range "\t\n\r ,#!$.-0aZ_\"\\" {
		odd = append(odd, -c, c+0x100, c+0x10000, c-0x100, c|math.MinInt32, c+0x1000000)
	}
	return odd
}

// illFormed are bytes that are no UTF-8 from their first on.
func illFormed() []string {
	return []string{"\x80", "\xbf", "\xc3", "\xc3(", "\xc0\x80", "\xc1\xbf", "\xe0\x80\x80", "\xe0\x9f\xbf", "\xed\xa0\x80", "\xed\xbf\xbf", "\xe2\x82", "\xf0\x8f\xbf\xbf", "\xf0\x9f\x98", "\xf4\x90\x80\x80", "\xf8\x88\x80\x80\x80", "\xfe", "\xff"}
}
