package strval

import (
	"strings"
	"unicode/utf8"

	"pergola/utf"
)

// The characters that have an escape of one letter: how it is named, and what it means, number by number.
const (
	escapeNames = `"\bfnrt/`
	escapeMeans = "\"\\\b\f\n\r\t/"
)

// quotedPiece reads the piece at the beginning of rest: the character that it means, and its length, which is 0 if none stands there.
func quotedPiece(rest []rune) (rune, int) {
	switch c := rest[0]; {
	case c == '\\':
		return escape(rest)
	case c == '"' || c == '\n' || c == '\r' || !utf.Source(c):
		return 0, 0
	default:
		return c, 1
	}
}

// escape is quotedPiece of a piece that begins with a backslash.
func escape(rest []rune) (rune, int) {
	if len(rest) < 2 {
		return 0, 0
	}
	if rest[1] == 'u' {
		return coded(rest)
	}
	i := strings.IndexRune(escapeNames, rest[1])
	if i < 0 {
		return 0, 0
	}
	return rune(escapeMeans[i]), 2
}

const codeLength = len(`\u0000`)

// coded is quotedPiece of a piece that tells its character by one number, or by two.
func coded(rest []rune) (rune, int) {
	first := code(rest)
	if first < 0 {
		return 0, 0
	}
	if utf8.ValidRune(first) {
		return first, codeLength
	}
	c, ok := utf.Join(first, code(rest[codeLength:]))
	if !ok {
		return 0, 0
	}
	return c, 2 * codeLength
}

// code is the number told at the beginning of rest, and -1, which is no half of a pair, if none is.
func code(rest []rune) rune {
	if len(rest) < codeLength || rest[0] != '\\' || rest[1] != 'u' {
		return -1
	}
	n := 0
	for _, c := range rest[2:codeLength] {
		digit := utf.Hex(c)
		if digit < 0 {
			return -1
		}
		n = n*16 + digit
	}
	return rune(n)
}

// layQuoted lays the canonical text of a character between quotes.
func layQuoted(out *strings.Builder, c rune) {
	high, low, paired := utf.Split(c)
	named := strings.IndexRune(escapeMeans, c)
	switch {
	case c == '/':
		out.WriteRune(c) // it needs no escape, though it has one
	case named >= 0:
		out.WriteByte('\\')
		out.WriteByte(escapeNames[named])
	case c < ' ' || c == 0x7F:
		layCode(out, c)
	case paired:
		layCode(out, high)
		layCode(out, low)
	default:
		out.WriteRune(c)
	}
}

func layCode(out *strings.Builder, n rune) {
	const digits = "0123456789ABCDEF"
	out.WriteString(`\u`)
	for shift := 12; shift >= 0; shift -= 4 {
		out.WriteByte(digits[n>>shift&0xF])
	}
}
