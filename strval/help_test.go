package strval_test

import (
	"math"
	"slices"
	"strings"
	"testing"

	"pergola/api"
	"pergola/strval"
)

// text is the runes of pieces put together.
func text(pieces ...string) []rune { return []rune(strings.Join(pieces, "")) }

// lines is a list of lines.
func lines(l ...string) [][]rune {
	var out [][]rune
	for _, s := range l {
		out = append(out, []rune(s))
	}
	return out
}

// byLF is a text of lines.
func byLF(l ...string) string { return strings.Join(l, "\n") }

// everyText hands on all texts of at most length pieces out of the alphabet.
func everyText(alphabet []string, length int, use func(string)) {
	var grow func(s string, room int)
	grow = func(s string, room int) {
		use(s)
		if room == 0 {
			return
		}
		for _, piece := range alphabet {
			grow(s+piece, room-1)
		}
	}
	grow("", length)
}

// scalar: is c a character that a text may have?
func scalar(c rune) bool {
	return c >= 0 && c <= 0x10FFFF && (c < 0xD800 || c > 0xDFFF)
}

// source: may c stand in a source? (By the numbers of chapter 1.)
func source(c rune) bool {
	return c == 9 || c == 0xA || c == 0xD || c >= 0x20 && c <= 0xFFFF && scalar(c)
}

// oddRunes are runes that a source can't have, and those at the edges of what it can.
func oddRunes() []rune {
	return []rune{math.MinInt32, math.MinInt32 + '"', -0x10000, -1, -'"', -'\\', 0, 1, 8, 0xB, 0xC, 0xE, 0x1F, 0x7F, 0x80, 0x85, 0xA0, 0xD7FF, 0xD800, 0xDBFF, 0xDC00, 0xDFFF, 0xE000, 0x2028, 0xFEFF, 0xFFFD, 0xFFFE, 0xFFFF, 0x10000, 0x1F600, 0x10FFFF, 0x110000, 0x1000000 + 'a', math.MaxInt32}
}

// illFormed are bytes that are no UTF-8.
func illFormed() []string {
	return []string{"\x80", "\xbf", "\xc3", "\xc3(", "\xc0\x80", "\xc1\xbf", "\xe0\x80\x80", "\xe0\x9f\xbf", "\xed\xa0\x80", "\xed\xbf\xbf", "\xe2\x82", "\xf0\x8f\xbf\xbf", "\xf0\x9f\x98", "\xf4\x90\x80\x80", "\xf8\x88\x80\x80\x80", "\xfe", "\xff"}
}

func wantQuoted(t *testing.T, inside []rune, want string) {
	t.Helper()
	if v, e := strval.Quoted(inside); v != want || e != api.OK {
		t.Errorf("Quoted(%q) = %q, %d; want %q", inside, v, e, want)
	}
}

func refuseQuoted(t *testing.T, inside []rune) {
	t.Helper()
	if v, e := strval.Quoted(inside); v != "" || e != api.ErrEscape {
		t.Errorf("Quoted(%q) = %q, %d; want a refusal", inside, v, e)
	}
}

func wantBlock(t *testing.T, inside []rune, want string) {
	t.Helper()
	if v, e := strval.Block(inside); v != want || e != api.OK {
		t.Errorf("Block(%q) = %q, %d; want %q", inside, v, e, want)
	}
}

func refuseBlock(t *testing.T, inside []rune) {
	t.Helper()
	if v, e := strval.Block(inside); v != "" || e != api.ErrEscape {
		t.Errorf("Block(%q) = %q, %d; want a refusal", inside, v, e)
	}
}

func sameLines(a, b [][]rune) bool {
	return slices.EqualFunc(a, b, slices.Equal[[]rune])
}

func wantDedent(t *testing.T, in, want [][]rune) {
	t.Helper()
	if got := strval.Dedent(in); !sameLines(got, want) {
		t.Errorf("Dedent(%q) = %q, want %q", in, got, want)
	}
}

func wantQuoteText(t *testing.T, value, want string) {
	t.Helper()
	if s, e := strval.QuoteText(value); s != want || e != api.OK {
		t.Errorf("QuoteText(%q) = %q, %d; want %q", value, s, e, want)
	}
}

func wantBlockText(t *testing.T, value, want string) {
	t.Helper()
	if s, ok := strval.BlockText(value); s != want || !ok {
		t.Errorf("BlockText(%q) = %q, %v; want %q", value, s, ok, want)
	}
}

func refuseBlockText(t *testing.T, value string) {
	t.Helper()
	if s, ok := strval.BlockText(value); s != "" || ok {
		t.Errorf("BlockText(%q) = %q, %v; want none", value, s, ok)
	}
}
