package jsonout

// layText takes texts that are well formed. All that is escaped is ASCII, whose bytes stand in no other character, so it looks at bytes, and lays what stands between two escapes as one piece.
func layText(s string, lay pen) {
	lay(`"`)
	from := 0
	for i := range len(s) {
		if standsAsItIs(s[i]) {
			continue
		}
		lay(s[from:i])
		lay(escape(s[i]))
		from = i + 1
	}
	lay(s[from:])
	lay(`"`)
}

func standsAsItIs(c byte) bool {
	return c >= ' ' && c != '"' && c != '\\'
}

// escape is what stands for a character that may not stand as it is.
func escape(c byte) string {
	const digits = "0123456789abcdef"
	short := []struct {
		char byte
		text string
	}{
		{'"', `\"`},
		{'\\', `\\`},
		{'\b', `\b`},
		{'\t', `\t`},
		{'\n', `\n`},
		{'\f', `\f`},
		{'\r', `\r`},
	}
	for _, row := range short {
		if row.char == c {
			return row.text
		}
	}
	return `\u00` + digits[c>>4:c>>4+1] + digits[c&0xF:c&0xF+1]
}
