// Package utf is layer 1: see shared/doc/01-utf.md.
package utf

import (
	"strings"
	"unicode/utf8"
)

// Bytes is a source: a string or bytes.
type Bytes interface{ ~string | ~[]byte }

// Decode answers the characters of the longest well-formed beginning, and its length in bytes.
func Decode[S Bytes](src S) ([]rune, int) {
	text := string(src)
	good := goodLength(text)
	return []rune(text[:good]), good
}

// Clean says whether src is well-formed UTF-8.
func Clean[S Bytes](src S) bool {
	return goodLength(string(src)) == len(src)
}

// goodLength is the length in bytes of a text's good beginning.
func goodLength(text string) int {
	for i, c := range text {
		// The range tells a bad byte as U+FFFD, which may also stand in the text for itself.
		if c == utf8.RuneError && !strings.HasPrefix(text[i:], "\uFFFD") {
			return i
		}
	}
	return len(text)
}

// Encode is the UTF-8 of characters.
func Encode(chars []rune) (string, bool) {
	var out []byte
	for _, c := range chars {
		if !utf8.ValidRune(c) {
			return "", false
		}
		out = utf8.AppendRune(out, c)
	}
	return string(out), true
}

// The halves of a pair: each block has room for halfSize of them, and above pairBase characters are written by pairs.
const (
	highBase rune = 0xD800
	lowBase  rune = 0xDC00
	halfSize rune = 0x400
	pairBase rune = 0x10000
	lastChar rune = 0x10FFFF
)

// Join makes one character of the two halves of a pair.
func Join(high, low rune) (rune, bool) {
	if !within(high, highBase, highBase+halfSize-1) || !within(low, lowBase, lowBase+halfSize-1) {
		return 0, false
	}
	return pairBase + (high-highBase)*halfSize + (low - lowBase), true
}

// Split is Join backwards.
func Split(c rune) (rune, rune, bool) {
	if !within(c, pairBase, lastChar) {
		return 0, 0, false
	}
	above := c - pairBase
	return highBase + above/halfSize, lowBase + above%halfSize, true
}

// within: is c from first to last?
func within(c, first, last rune) bool {
	return first <= c && c <= last
}
