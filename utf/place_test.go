package utf_test

import (
	"math"
	"slices"
	"testing"

	"pergola/api"
	"pergola/utf"
)

// lineEnd is the numbers of a line end's first character and of the one behind its last.
type lineEnd struct {
	from, to int
}

func lineEnds(chars []rune) []lineEnd {
	var ends []lineEnd
	for i := 0; i < len(chars); i++ {
		switch {
		case chars[i] == 0xD && i+1 < len(chars) && chars[i+1] == 0xA:
			ends = append(ends, lineEnd{i, i + 2})
			i++
		case chars[i] == 0xD || chars[i] == 0xA:
			ends = append(ends, lineEnd{i, i + 1})
		}
	}
	return ends
}

func placeOf(ends []lineEnd, i int) api.Pos {
	line, begin := 1, 0
	for _, e := range ends {
		if e.to <= i {
			line++
			begin = e.to
		}
	}
	return api.Pos{Line: line, Col: 1 + i - begin}
}

func checkPlaces(t *testing.T, chars []rune) {
	t.Helper()
	ends := lineEnds(chars)
	var want []api.Pos
	for i := range len(chars) + 1 {
		want = append(want, placeOf(ends, i))
	}
	if got := utf.Places(chars); !slices.Equal(got, want) {
		t.Fatalf("Places(%x) = %v, want %v", chars, got, want)
	}
	for i, p := range want {
		if got := utf.Place(chars, i); got != p {
			t.Fatalf("Place(%x, %d) = %v, want %v", chars, i, got, p)
		}
	}
	for _, i := range []int{-1, -2, math.MinInt} {
		if got := utf.Place(chars, i); got != want[0] {
			t.Fatalf("Place(%x, %d) = %v", chars, i, got)
		}
	}
	for _, i := range []int{len(chars) + 1, len(chars) + 2, math.MaxInt} {
		if got := utf.Place(chars, i); got != want[len(chars)] {
			t.Fatalf("Place(%x, %d) = %v", chars, i, got)
		}
	}
}

func checkLines(t *testing.T, chars []rune) {
	t.Helper()
	var want [][]rune
	begin := 0
	for _, e := range lineEnds(chars) {
		want = append(want, chars[begin:e.from])
		begin = e.to
	}
	want = append(want, chars[begin:])
	if got := utf.Lines(chars); !slices.EqualFunc(got, want, slices.Equal[[]rune]) {
		t.Fatalf("Lines(%x) = %x, want %x", chars, got, want)
	}
}

// everyText hands on all texts of at most length characters out of the alphabet.
func everyText(alphabet []rune, length int, use func([]rune)) {
	var grow func(text []rune)
	grow = func(text []rune) {
		use(text)
		if len(text) == length {
			return
		}
		for _, c := range alphabet {
			grow(append(slices.Clone(text), c))
		}
	}
	grow(nil)
}

func TestPlacesOfEveryShortText(t *testing.T) {
	everyText([]rune{'a', 0xA, 0xD}, 8, func(text []rune) {
		before := slices.Clone(text)
		checkPlaces(t, text)
		checkLines(t, text)
		if !slices.Equal(text, before) {
			t.Fatalf("%x was changed to %x", before, text)
		}
	})
}

// Only 0xA and 0xD end a line, whatever other runes, scalar values or not, stand beside them.
func TestPlacesOfOddRunes(t *testing.T) {
	odd := []rune{0, 9, 0xB, 0xC, 0x85, 0x2028, 0x2029, 0xD800, 0xDFFF, 0xFEFF, 0x1F600, 0x110000, -1, -10, -13, 0x10000 + 0xA, 0x10000 + 0xD, math.MinInt32, math.MaxInt32}
	for _, c := range odd {
		everyText([]rune{c, 0xA, 0xD}, 4, func(text []rune) {
			checkPlaces(t, text)
			checkLines(t, text)
		})
	}
	checkPlaces(t, odd)
	if got := utf.Lines(odd); len(got) != 1 || !slices.Equal(got[0], odd) {
		t.Errorf("Lines(%x) = %x", odd, got)
	}
}

func TestPlaceExamples(t *testing.T) {
	for _, c := range []struct {
		text   string
		places []api.Pos
		lines  []string
	}{
		{"", []api.Pos{{Line: 1, Col: 1}}, []string{""}},
		{
			"a\r\nb\n\nc",
			[]api.Pos{{Line: 1, Col: 1}, {Line: 1, Col: 2}, {Line: 1, Col: 3}, {Line: 2, Col: 1}, {Line: 2, Col: 2}, {Line: 3, Col: 1}, {Line: 4, Col: 1}, {Line: 4, Col: 2}},
			[]string{"a", "b", "", "c"},
		},
		{"\r\r\n", []api.Pos{{Line: 1, Col: 1}, {Line: 2, Col: 1}, {Line: 2, Col: 2}, {Line: 3, Col: 1}}, []string{"", "", ""}},
		{"\n\r", []api.Pos{{Line: 1, Col: 1}, {Line: 2, Col: 1}, {Line: 3, Col: 1}}, []string{"", "", ""}},
	} {
		chars := []rune(c.text)
		if got := utf.Places(chars); !slices.Equal(got, c.places) {
			t.Errorf("Places(%q) = %v", c.text, got)
		}
		var lines []string
		for _, line := range utf.Lines(chars) {
			lines = append(lines, string(line))
		}
		if !slices.Equal(lines, c.lines) {
			t.Errorf("Lines(%q) = %q", c.text, lines)
		}
	}
	for _, i := range []int{-9, -1, 0, 1, 9} {
		if got := utf.Place(nil, i); got != (api.Pos{Line: 1, Col: 1}) {
			t.Errorf("Place of nothing, %d: %v", i, got)
		}
	}
	if got := utf.Place([]rune{'x'}, 9); got != (api.Pos{Line: 1, Col: 2}) {
		t.Errorf("beyond the end: %v", got)
	}
	if got := utf.Place([]rune{'x'}, -9); got != (api.Pos{Line: 1, Col: 1}) {
		t.Errorf("ahead of the beginning: %v", got)
	}
}

func TestLinesNewMemory(t *testing.T) {
	text := []rune{'a', 'b', 0xD, 0xA, 0xA, 'c', 0xD, 'd', 'e'}
	room := append(slices.Clone(text), 7, 7, 7, 7)
	chars := room[:len(text)]
	lines := utf.Lines(chars)
	want := [][]rune{{'a', 'b'}, nil, {'c'}, {'d', 'e'}}
	for i, line := range lines {
		for k := range line {
			line[k] = -5
		}
		grown := append(line, -6, -6, -6)
		for k := range want[i] {
			want[i][k] = -5
		}
		if len(grown) != len(want[i])+3 {
			t.Fatalf("line %d: %x", i, line)
		}
		for k := i + 1; k < len(lines); k++ {
			if !slices.Equal(lines[k], want[k]) {
				t.Errorf("line %d follows line %d: %x", k, i, lines[k])
			}
		}
	}
	if !slices.Equal(room, append(slices.Clone(text), 7, 7, 7, 7)) {
		t.Errorf("the characters were changed: %x", room)
	}
	for i := range chars {
		chars[i] = 9
	}
	if !slices.EqualFunc(lines, want, slices.Equal[[]rune]) {
		t.Errorf("the lines follow the characters: %x", lines)
	}
}

func TestPlacesNewMemory(t *testing.T) {
	chars := []rune{'a', 0xA}
	first := utf.Places(chars)
	first[0] = api.Pos{Line: 9, Col: 9}
	if got := utf.Places(chars)[0]; got != (api.Pos{Line: 1, Col: 1}) {
		t.Errorf("a later answer follows an earlier one: %v", got)
	}
}
