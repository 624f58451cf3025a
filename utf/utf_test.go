package utf_test

import (
	"bytes"
	"math"
	"slices"
	"testing"

	"pergola/utf"
)

type namedText string

type namedBytes []byte

// group is the character that begins bytes, by the chapter's table, and its length; 0 if there is none.
func group(b []byte) (rune, int) {
	forms := []struct {
		mask, mark byte
		length     int
		least      rune
	}{
		{0x80, 0x00, 1, 0},
		{0xE0, 0xC0, 2, 0x80},
		{0xF0, 0xE0, 3, 0x800},
		{0xF8, 0xF0, 4, 0x10000},
	}
	for _, f := range forms {
		if len(b) < f.length || b[0]&f.mask != f.mark {
			continue
		}
		c := rune(b[0] &^ f.mask)
		for _, more := range b[1:f.length] {
			if more&0xC0 != 0x80 {
				return 0, 0
			}
			c = c<<6 | rune(more&0x3F)
		}
		if c < f.least || !scalar(c) {
			return 0, 0
		}
		return c, f.length
	}
	return 0, 0
}

func scalar(c rune) bool {
	return c >= 0 && c <= 0x10FFFF && (c < 0xD800 || c > 0xDFFF)
}

// goodBeginning is what Decode must answer, group by group.
func goodBeginning(b []byte) ([]rune, int) {
	var chars []rune
	n := 0
	for n < len(b) {
		c, length := group(b[n:])
		if length == 0 {
			break
		}
		chars = append(chars, c)
		n += length
	}
	return chars, n
}

// written is the character's bytes, by the chapter's table.
func written(c rune) []byte {
	tail := func(shift uint) byte { return 0x80 | byte(c>>shift)&0x3F }
	switch {
	case c < 0x80:
		return []byte{byte(c)}
	case c < 0x800:
		return []byte{0xC0 | byte(c>>6), tail(0)}
	case c < 0x10000:
		return []byte{0xE0 | byte(c>>12), tail(6), tail(0)}
	}
	return []byte{0xF0 | byte(c>>18), tail(12), tail(6), tail(0)}
}

// checkBytes holds Decode and Clean of the bytes, in all types, against the table.
func checkBytes(t *testing.T, b []byte) {
	t.Helper()
	want, n := goodBeginning(b)
	check := func(as string, got []rune, m int, clean bool) {
		if m != n || !slices.Equal(got, want) || clean != (n == len(b)) {
			t.Fatalf("% x as %s: %x, %d, %v; want %x, %d", b, as, got, m, clean, want, n)
		}
	}
	got, m := utf.Decode(string(b))
	check("string", got, m, utf.Clean(string(b)))
	got, m = utf.Decode(b)
	check("[]byte", got, m, utf.Clean(b))
	got, m = utf.Decode(namedText(b))
	check("named string", got, m, utf.Clean(namedText(b)))
	got, m = utf.Decode(namedBytes(b))
	check("named []byte", got, m, utf.Clean(namedBytes(b)))
}

func TestDecodeExamples(t *testing.T) {
	for _, c := range []struct {
		src   string
		chars []rune
		n     int
	}{
		{"", nil, 0},
		{"a\xc3\xa9", []rune{0x61, 0xE9}, 3},
		{"a\xc3", []rune{0x61}, 1},
		{"a\xc0\x80b", []rune{0x61}, 1},
		{"\xed\xa0\x80", nil, 0},
		{"\xef\xbb\xbf{", []rune{0xFEFF, 0x7B}, 4},
		{"\xf4\x8f\xbf\xbf", []rune{0x10FFFF}, 4},
		{"\xf4\x90\x80\x80", nil, 0},
		{"\xf0\x9f\x98", nil, 0},
		{"\xef\xbf\xbd\xef\xbf\xbd", []rune{0xFFFD, 0xFFFD}, 6},
		{"\xef\xbf\xbd\xef\xbf", []rune{0xFFFD}, 3},
		{"a\x80b", []rune{0x61}, 1},
		{"\x00\x00", []rune{0, 0}, 2},
	} {
		got, n := utf.Decode(c.src)
		if n != c.n || !slices.Equal(got, c.chars) {
			t.Errorf("Decode(%q) = %x, %d", c.src, got, n)
		}
		if utf.Clean(c.src) != (n == len(c.src)) {
			t.Errorf("Clean(%q)", c.src)
		}
	}
	if got, n := utf.Decode([]byte(nil)); len(got) != 0 || n != 0 || !utf.Clean([]byte(nil)) {
		t.Errorf("no bytes: %x, %d", got, n)
	}
}

func TestDecodeIllFormed(t *testing.T) {
	for _, bad := range []string{
		"\xc0\x80", "\xe0\x80\x80", "\xf0\x80\x80\x80", "\xed\xa0\x80", "\xed\xbf\xbf", "\xf4\x90\x80\x80", "\x80",
		"\xf8\x88\x80\x80\x80", "\xff", "\xfe", "\xc3", "\xe2\x82", "\xf0\x9f\x98", "\xc3a", "\xe2\x82a", "\xf0\x9f\x98a",
	} {
		for _, ahead := range []string{"", "x", "\u00e9", "\ufffd", "\U0001f600"} {
			src := ahead + bad + "z"
			got, n := utf.Decode(src)
			if n != len(ahead) || !slices.Equal(got, []rune(ahead)) || utf.Clean(src) {
				t.Errorf("Decode(%q) = %x, %d", src, got, n)
			}
			checkBytes(t, []byte(src))
		}
	}
}

func TestDecodeShortBytes(t *testing.T) {
	for a := range 256 {
		checkBytes(t, []byte{byte(a)})
		for b := range 256 {
			checkBytes(t, []byte{byte(a), byte(b)})
		}
	}
}

// edgeBytes are the bytes at which the table's rules change.
func edgeBytes() []byte {
	return []byte{
		0x00, 0x41, 0x7F, 0x80, 0x8F, 0x90, 0x9F, 0xA0, 0xBD, 0xBF, 0xC0, 0xC1, 0xC2, 0xDF, 0xE0, 0xE1, 0xEC,
		0xED, 0xEE, 0xEF, 0xF0, 0xF1, 0xF3, 0xF4, 0xF5, 0xF7, 0xF8, 0xFB, 0xFC, 0xFF,
	}
}

func TestDecodeEdges(t *testing.T) {
	edges := edgeBytes()
	for _, a := range edges {
		for _, b := range edges {
			for _, c := range edges {
				checkBytes(t, []byte{a, b, c})
				for _, d := range []byte{0x41, 0x7F, 0x80, 0xBF, 0xC0} {
					checkBytes(t, []byte{a, b, c, d})
				}
			}
		}
	}
}

func TestEveryCharacter(t *testing.T) {
	for c := rune(0); c <= 0x10FFFF; c++ {
		text, ok := utf.Encode([]rune{c})
		if !scalar(c) {
			if text != "" || ok {
				t.Fatalf("Encode(%x) = %q, %v", c, text, ok)
			}
			continue
		}
		if text != string(written(c)) || !ok {
			t.Fatalf("Encode(%x) = %q, %v", c, text, ok)
		}
		if got, n := utf.Decode(text); n != len(text) || len(got) != 1 || got[0] != c || !utf.Clean(text) {
			t.Fatalf("Decode(%q) = %x, %d", text, got, n)
		}
	}
}

func TestEncode(t *testing.T) {
	for _, c := range []struct {
		chars []rune
		text  string
		ok    bool
	}{
		{nil, "", true},
		{[]rune{}, "", true},
		{[]rune{0}, "\x00", true},
		{[]rune{0x61, 0x1F600}, "a\xf0\x9f\x98\x80", true},
		{[]rune{0xFFFD, 0xFEFF}, "\xef\xbf\xbd\xef\xbb\xbf", true},
		{[]rune{0x61, 0xD800}, "", false},
		{[]rune{0xD83D, 0xDE00}, "", false},
		{[]rune{0xDFFF, 0x61}, "", false},
		{[]rune{-1}, "", false},
		{[]rune{0x61, 0x110000, 0x62}, "", false},
		{[]rune{math.MinInt32}, "", false},
		{[]rune{math.MaxInt32}, "", false},
	} {
		if text, ok := utf.Encode(c.chars); text != c.text || ok != c.ok {
			t.Errorf("Encode(%x) = %q, %v", c.chars, text, ok)
		}
	}
}

func TestDecodeNewMemory(t *testing.T) {
	room := []byte("ab\xc3\xa9~~~~")
	src := room[:4]
	chars, _ := utf.Decode(src)
	chars[0] = 'x'
	_ = append(chars, 'y')
	if !bytes.Equal(room, []byte("ab\xc3\xa9~~~~")) {
		t.Errorf("the source was changed: %q", room)
	}
	src[1] = 'z'
	if !slices.Equal(chars, []rune{'x', 'b', 0xE9}) {
		t.Errorf("the answer follows the source: %x", chars)
	}
}

func TestEncodeLeavesCharacters(t *testing.T) {
	room := []rune{'a', 0x1F600, 7, 7}
	utf.Encode(room[:2])
	utf.Encode(append(room[:2:2], -1))
	if !slices.Equal(room, []rune{'a', 0x1F600, 7, 7}) {
		t.Errorf("changed: %x", room)
	}
}

func TestJoin(t *testing.T) {
	for high := rune(0xD800); high <= 0xDBFF; high++ {
		for low := rune(0xDC00); low <= 0xDFFF; low++ {
			c, ok := utf.Join(high, low)
			if c != 0x10000+(high-0xD800)*0x400+(low-0xDC00) || !ok {
				t.Fatalf("Join(%x, %x) = %x, %v", high, low, c, ok)
			}
		}
	}
	edges := []rune{math.MinInt32, -1, 0, 'a', 0xD7FF, 0xD800, 0xDBFF, 0xDC00, 0xDFFF, 0xE000, 0x10000, 0x1D800, 0x10FFFF, math.MaxInt32}
	for _, high := range edges {
		for _, low := range edges {
			if high >= 0xD800 && high <= 0xDBFF && low >= 0xDC00 && low <= 0xDFFF {
				continue
			}
			if c, ok := utf.Join(high, low); c != 0 || ok {
				t.Errorf("Join(%x, %x) = %x, %v", high, low, c, ok)
			}
		}
	}
	if c, ok := utf.Join(0xD83D, 0xDE00); c != 0x1F600 || !ok {
		t.Errorf("Join of the example = %x, %v", c, ok)
	}
}

func TestSplit(t *testing.T) {
	for c := rune(0x10000); c <= 0x10FFFF; c++ {
		high, low, ok := utf.Split(c)
		if !ok || high < 0xD800 || high > 0xDBFF || low < 0xDC00 || low > 0xDFFF {
			t.Fatalf("Split(%x) = %x, %x, %v", c, high, low, ok)
		}
		if back, ok := utf.Join(high, low); back != c || !ok {
			t.Fatalf("Join of Split(%x) = %x, %v", c, back, ok)
		}
	}
	for c := rune(-0x10000); c < 0x10000; c++ {
		if high, low, ok := utf.Split(c); high != 0 || low != 0 || ok {
			t.Fatalf("Split(%x) = %x, %x, %v", c, high, low, ok)
		}
	}
	for _, c := range []rune{0x110000, 0x110001, math.MaxInt32, math.MinInt32} {
		if high, low, ok := utf.Split(c); high != 0 || low != 0 || ok {
			t.Errorf("Split(%x) = %x, %x, %v", c, high, low, ok)
		}
	}
	if high, low, ok := utf.Split(0x1F600); high != 0xD83D || low != 0xDE00 || !ok {
		t.Errorf("Split of the example = %x, %x, %v", high, low, ok)
	}
}
