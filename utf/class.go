package utf

// Source: may c stand in a source?
func Source(c rune) bool {
	switch c {
	case '\t', '\n', '\r':
		return true
	}
	return within(c, 0x20, 0xD7FF) || within(c, 0xE000, 0xFFFF)
}

// Blank: is c ignored between tokens?
func Blank(c rune) bool {
	switch c {
	case '\t', '\n', '\r', ' ', ',', 0xFEFF:
		return true
	}
	return false
}

// NameStart: may a name begin with c?
func NameStart(c rune) bool {
	return within(c, 'A', 'Z') || within(c, 'a', 'z') || c == '_'
}

// NameRest: may c stand in a name behind its first character?
func NameRest(c rune) bool {
	return NameStart(c) || Digit(c)
}

// Digit: is c one of 0 to 9?
func Digit(c rune) bool {
	return within(c, '0', '9')
}

// Hex is the value of a digit of base sixteen, -1 of everything else.
func Hex(c rune) int {
	switch {
	case Digit(c):
		return int(c - '0')
	case within(c, 'a', 'f'):
		return int(c-'a') + 10
	case within(c, 'A', 'F'):
		return int(c-'A') + 10
	}
	return -1
}
