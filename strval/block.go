package strval

import (
	"pergola/utf"
)

const (
	tripleQuote  = `"""`
	tripleEscape = `\"""`
)

// blockChars reads a block string's inside piece by piece: the characters that the pieces mean, and whether the inside may stand.
func blockChars(inside []rune) ([]rune, bool) {
	var chars []rune
	quotes := 0   // how many stand by themselves right ahead
	open := false // would the piece right ahead, with the closing quotes behind it, be read otherwise?
	for len(inside) > 0 {
		if escapesQuotes(inside) {
			chars = append(chars, inside[1:len(tripleEscape)]...)
			inside = inside[len(tripleEscape):]
			quotes, open = 0, false
			continue
		}
		c := inside[0]
		if c == '"' {
			quotes++
		} else {
			quotes = 0
		}
		if quotes == len(tripleQuote) || !utf.Source(c) {
			return nil, false
		}
		open = c == '"' || c == '\\'
		chars = append(chars, c)
		inside = inside[1:]
	}
	return chars, !open
}

// escapesQuotes: does rest begin with a backslash and three quotes?
func escapesQuotes(rest []rune) bool {
	for i, c := range tripleEscape {
		if i == len(rest) || rest[i] != c {
			return false
		}
	}
	return true
}

// joined is the characters of the lines, with a LF between each two.
func joined(lines [][]rune) []rune {
	var chars []rune
	for i, line := range lines {
		if i > 0 {
			chars = append(chars, '\n')
		}
		chars = append(chars, line...)
	}
	return chars
}

// fitsBlock: can each of the characters stand in a block string's value? A CR can't: in a source it ends a line, and lines are put together by LF.
func fitsBlock(chars []rune) bool {
	for _, c := range chars {
		if !utf.Source(c) || c == '\r' {
			return false
		}
	}
	return true
}

// keepsLines: does Dedent leave the lines of a value as they are, if they stand in a block string as BlockText lays them?
func keepsLines(lines [][]rune) bool {
	if blank(lines[0]) || blank(lines[len(lines)-1]) {
		return false
	}
	return len(lines) == 1 || leastIndent(lines) == 0
}

// commonIndent leaves the first line aside: what stands ahead of it is the opening quotes.
func commonIndent(lines [][]rune) int {
	if len(lines) == 0 {
		return 0
	}
	return leastIndent(lines[1:])
}

// leastIndent is the least indent of the lines that aren't blank, 0 if there is none.
func leastIndent(lines [][]rune) int {
	least := -1
	for _, line := range lines {
		n := indent(line)
		if n < len(line) && (least < 0 || n < least) {
			least = n
		}
	}
	return max(least, 0)
}

func blank(line []rune) bool {
	return indent(line) == len(line)
}

// indent is the number of white characters that a line begins with.
func indent(line []rune) int {
	for i, c := range line {
		if c != '\t' && c != ' ' {
			return i
		}
	}
	return len(line)
}

// newLine copies by hand, since slices.Clone of an empty line would still point to what was handed in.
func newLine(chars []rune) []rune {
	line := make([]rune, len(chars))
	copy(line, chars)
	return line
}
