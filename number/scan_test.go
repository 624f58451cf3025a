package number_test

import (
	"math"
	"regexp"
	"slices"
	"testing"

	"pergola/api"
	"pergola/number"
)

type namedByte byte

type namedChar int32

var grammar = regexp.MustCompile(`^-?(0|[1-9][0-9]*)(\.[0-9]+)?([eE][+-]?[0-9]+)?$`)

func isNumber(s string) bool {
	return grammar.MatchString(s)
}

// begins: whatever may stand ahead of more digits becomes a number text by a nought behind it.
func begins(s string) bool {
	return isNumber(s) || isNumber(s+"0")
}

// prefixOf is what Prefix must answer, by the promise's words: every place is tried.
func prefixOf(s string, at int) (end, stop int, form api.Form) {
	if at < 0 || at > len(s) {
		return 0, 0, api.FormNone
	}
	end = at
	for k := at; k <= len(s); k++ {
		if isNumber(s[at:k]) {
			end = k
		}
		if begins(s[at:k]) {
			stop = k
		}
	}
	switch text := s[at:end]; {
	case text == "":
		form = api.FormNone
	case regexp.MustCompile(`[.eE]`).MatchString(text):
		form = api.FormFraction
	default:
		form = api.FormWhole
	}
	return end, stop, form
}

func list[C ~uint8 | ~int32](s string) []C {
	var out []C
	for i := range len(s) {
		out = append(out, C(s[i]))
	}
	return out
}

func checkPrefix[C ~uint8 | ~int32](t *testing.T, s string, at int) {
	t.Helper()
	chars := list[C](s)
	end, stop, form := number.Prefix(chars, at)
	wantEnd, wantStop, wantForm := prefixOf(s, at)
	if end != wantEnd || stop != wantStop || form != wantForm {
		t.Fatalf("Prefix(%q, %d) = %d, %d, %d; want %d, %d, %d", s, at, end, stop, form, wantEnd, wantStop, wantForm)
	}
	if !slices.Equal(chars, list[C](s)) {
		t.Fatalf("Prefix(%q, %d) changed what it was handed", s, at)
	}
}

func TestPrefixExamples(t *testing.T) {
	cases := []struct {
		s         string
		at        int
		end, stop int
		form      api.Form
	}{
		{"12.x", 0, 2, 3, api.FormWhole},
		{"12.5e+", 0, 4, 6, api.FormFraction},
		{"-", 0, 0, 1, api.FormNone},
		{"01", 0, 1, 1, api.FormWhole},
		{"a7", 1, 2, 2, api.FormWhole},
		{"", 0, 0, 0, api.FormNone},
		{"7", 1, 1, 1, api.FormNone},
		{"7", 2, 0, 0, api.FormNone},
		{"7", -1, 0, 0, api.FormNone},
		{"x-7", 1, 3, 3, api.FormWhole},
		{"x-", 1, 1, 2, api.FormNone},
		{"1.e5", 0, 1, 2, api.FormWhole},
		{"1e5.5", 0, 3, 3, api.FormFraction},
		{"1e5e5", 0, 3, 3, api.FormFraction},
		{"1E-07]", 0, 5, 5, api.FormFraction},
		{"--1", 0, 0, 1, api.FormNone},
		{"0123456789.9876543210e+0123456789", 0, 1, 1, api.FormWhole},
		{"123456789.9876543210e+0123456789", 0, 32, 32, api.FormFraction},
	}
	for _, c := range cases {
		end, stop, form := number.Prefix([]byte(c.s), c.at)
		if end != c.end || stop != c.stop || form != c.form {
			t.Errorf("Prefix(%q, %d) = %d, %d, %d", c.s, c.at, end, stop, form)
		}
		end, stop, form = number.Prefix([]rune(c.s), c.at)
		if end != c.end || stop != c.stop || form != c.form {
			t.Errorf("Prefix of characters (%q, %d) = %d, %d, %d", c.s, c.at, end, stop, form)
		}
	}
}

// TestPrefixShortTexts tries all short texts of the characters of the grammar.
func TestPrefixShortTexts(t *testing.T) {
	texts := []string{""}
	for first := 0; first < len(texts) && len(texts[first]) < 5; first++ {
		for _, c := range "019-+.eEx" {
			texts = append(texts, texts[first]+string(c))
		}
	}
	for _, s := range texts {
		checkPrefix[byte](t, s, 0)
		checkPrefix[rune](t, s, 0)
		checkPrefix[byte](t, "7e"+s, 2)
		if len(s) > 3 {
			continue
		}
		for _, front := range []string{"-12", "12.", "0.5e", "1e-"} {
			checkPrefix[namedByte](t, front+s, 0)
			checkPrefix[namedChar](t, front+s, 0)
		}
		for at := -2; at <= len(s)+2; at++ {
			checkPrefix[namedByte](t, s, at)
			checkPrefix[namedChar](t, s, at)
		}
	}
}

func TestPrefixEveryByte(t *testing.T) {
	for b := range 256 {
		for _, front := range []string{"", "-", "1", "0", "1.", "1.5", "1e", "1e+", "1e5"} {
			checkPrefix[byte](t, front+string([]byte{byte(b)})+"5", 0)
		}
	}
}

func TestPrefixWrongCharacters(t *testing.T) {
	wrong := []rune{
		math.MinInt32, -1, -208, 0, 0x660, 0xFF11, 0x1D7CE, 0x2212, 0xFF0E, 0x10FFFF, math.MaxInt32,
	}
	for _, c := range "0159-+.eE" {
		// Numbers that are a character of the grammar but for their high bits.
		wrong = append(wrong, c+0x100, c+0x10000, c-0x100, c|math.MinInt32)
	}
	for _, w := range wrong {
		for _, front := range []string{"", "-", "1", "0", "1.", "1.5", "1e", "1e+", "1e5"} {
			chars := append([]rune(front), w, '5')
			end, stop, form := number.Prefix(chars, 0)
			wantEnd, wantStop, wantForm := prefixOf(front, 0)
			if end != wantEnd || stop != wantStop || form != wantForm {
				t.Errorf("Prefix(%q and %d) = %d, %d, %d", front, w, end, stop, form)
			}
		}
	}
}

func TestPrefixWrongPlaces(t *testing.T) {
	for _, at := range []int{math.MinInt, -1, 3, 4, math.MaxInt} {
		if end, stop, form := number.Prefix([]byte{'1', '2'}, at); end != 0 || stop != 0 || form != api.FormNone {
			t.Errorf("place %d: %d, %d, %d", at, end, stop, form)
		}
	}
	if end, stop, form := number.Prefix[rune](nil, 0); end != 0 || stop != 0 || form != api.FormNone {
		t.Errorf("nil: %d, %d, %d", end, stop, form)
	}
	if end, stop, form := number.Prefix[byte](nil, 1); end != 0 || stop != 0 || form != api.FormNone {
		t.Errorf("behind nil: %d, %d, %d", end, stop, form)
	}
}

// TestPrefixWithinSpareRoom: what lies behind the list's length is not looked at.
func TestPrefixWithinSpareRoom(t *testing.T) {
	room := []byte("12.5e7")
	for n := range len(room) + 1 {
		end, stop, form := number.Prefix(room[:n], 0)
		wantEnd, wantStop, wantForm := prefixOf(string(room[:n]), 0)
		if end != wantEnd || stop != wantStop || form != wantForm {
			t.Errorf("the first %d: %d, %d, %d", n, end, stop, form)
		}
	}
}
