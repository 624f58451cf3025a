package jsonin

import (
	"unicode/utf8"

	"pergola/api"
	"pergola/utf"
)

func (r *reader) text() string {
	r.pass('"')
	var out []byte
pieces:
	for {
		out = append(out, r.plain()...)
		switch r.peek() {
		case '"':
			break pieces
		case '\\':
			r.at++
			out = utf8.AppendRune(out, r.escaped())
		default:
			r.stop()
		}
	}
	r.pass('"')
	return string(out)
}

// plain reads what stands for itself, up to the first byte that doesn't. Those that don't are ASCII, which stands in no other character's group.
func (r *reader) plain() string {
	from := r.at
	for r.at < len(r.src) && standsForItself(r.src[r.at]) {
		r.at++
	}
	piece := string(r.src[from:r.at])
	if !utf.Clean(piece) {
		refuse(from+goodLength(piece), api.ErrJson)
	}
	return piece
}

func standsForItself(c byte) bool {
	return c >= ' ' && c != '"' && c != '\\'
}

// goodLength is the length of an unclean piece's longest beginning that well-formed bytes may have: its good characters, and as much of the group behind them as could go on.
func goodLength(piece string) int {
	_, good := utf.Decode(piece)
	n := good
	for n < len(piece) && beginsGroup(piece[good:n+1]) {
		n++
	}
	return n
}

// beginsGroup tries the least and the greatest bytes for what is missing: where any others make a well-formed group, one of these do.
func beginsGroup(bytes string) bool {
	const least, greatest = "\x80\x80\x80", "\xBF\xBF\xBF"
	for missing := range len(least) + 1 {
		if utf.Clean(bytes+least[:missing]) || utf.Clean(bytes+greatest[:missing]) {
			return true
		}
	}
	return false
}

// escaped is the character for which an escape stands; the reader is behind its backslash.
func (r *reader) escaped() rune {
	c := rune(r.peek())
	switch c {
	case '"', '\\', '/':
	case 'b':
		c = '\b'
	case 'f':
		c = '\f'
	case 'n':
		c = '\n'
	case 'r':
		c = '\r'
	case 't':
		c = '\t'
	case 'u':
		r.at++
		return r.coded()
	default:
		r.stop()
	}
	r.at++
	return c
}

// coded is the character that one or two numbers tell; the reader is behind the first u.
func (r *reader) coded() rune {
	first := r.digits(false)
	// A second half has been refused by now, so what is no character is a first half.
	if utf8.ValidRune(first) {
		return first
	}
	r.pass('\\')
	r.pass('u')
	c, _ := utf.Join(first, r.digits(true))
	return c
}

// digits reads a number of four digits, which must be the second half of a pair if second is true, and else must not be.
func (r *reader) digits(second bool) rune {
	n := 0
	for i := range 4 {
		digit := utf.Hex(rune(r.peek()))
		n = n*16 + digit
		if digit < 0 || !mayGoOn(n, i, second) {
			r.stop()
		}
		r.at++
	}
	return rune(n)
}

// mayGoOn: can a number whose digits up to the one numbered i make n become what digits is asked for? The first two decide it.
func mayGoOn(n, i int, second bool) bool {
	switch i {
	case 0:
		return !second || n == 0xD
	case 1:
		return second == (n >= 0xDC && n <= 0xDF)
	}
	return true
}
