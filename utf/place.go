package utf

import (
	"pergola/api"
)

// Place is the place of the character number i.
func Place(chars []rune, i int) api.Pos {
	i = max(0, min(i, len(chars)))
	pos := api.Pos{Line: 1, Col: 1}
	for k := range i {
		pos = behind(pos, chars, k)
	}
	return pos
}

// Places are the places of all characters and of the end.
func Places(chars []rune) []api.Pos {
	pos := api.Pos{Line: 1, Col: 1}
	places := make([]api.Pos, 0, len(chars)+1)
	places = append(places, pos)
	for k := range chars {
		pos = behind(pos, chars, k)
		places = append(places, pos)
	}
	return places
}

// behind is the place right behind the character number k, which stands at pos.
func behind(pos api.Pos, chars []rune, k int) api.Pos {
	if endsLine(chars, k) {
		return api.Pos{Line: pos.Line + 1, Col: 1}
	}
	return api.Pos{Line: pos.Line, Col: pos.Col + 1}
}

// endsLine: is the character number k the last of a line end?
func endsLine(chars []rune, k int) bool {
	return chars[k] == '\n' || chars[k] == '\r' && !pairedAt(chars, k)
}

// pairedAt: do a CR and a LF stand at the numbers k and k + 1?
func pairedAt(chars []rune, k int) bool {
	return k >= 0 && k+1 < len(chars) && chars[k] == '\r' && chars[k+1] == '\n'
}

// Lines are the lines, without their ends.
func Lines(chars []rune) [][]rune {
	var lines [][]rune
	from := 0
	for k := range chars {
		if !endsLine(chars, k) {
			continue
		}
		to := k
		if pairedAt(chars, k-1) {
			to = k - 1
		}
		lines = append(lines, newLine(chars[from:to]))
		from = k + 1
	}
	return append(lines, newLine(chars[from:]))
}

// newLine copies by hand, since slices.Clone of an empty line would still point into the source.
func newLine(chars []rune) []rune {
	line := make([]rune, len(chars))
	copy(line, chars)
	return line
}
