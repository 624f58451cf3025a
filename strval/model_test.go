package strval_test

import (
	"encoding/json"
	"regexp"
	"strconv"
	"strings"
)

// The pieces of a quoted string (P6.1), as a regular expression.
var quotedInside = regexp.MustCompile(`^(?:` + strings.Join([]string{
	`[\x{9}\x{20}\x{21}\x{23}-\x{5B}\x{5D}-\x{D7FF}\x{E000}-\x{FFFF}]`,
	`\\["\\/bfnrt]`,
	`\\u(?:[0-9A-Ca-cE-Fe-f][0-9A-Fa-f]{3}|[Dd][0-7][0-9A-Fa-f]{2})`,
	`\\u[Dd][89ABab][0-9A-Fa-f]{2}\\u[Dd][C-Fc-f][0-9A-Fa-f]{2}`,
}, `|`) + `)*$`)

// modelQuoted takes the meaning of the escapes from JSON, which has the same ones; a tab may not stand there by itself.
func modelQuoted(inside string) (string, bool) {
	if !quotedInside.MatchString(inside) {
		return "", false
	}
	var value string
	if err := json.Unmarshal([]byte(`"`+strings.ReplaceAll(inside, "\t", `\t`)+`"`), &value); err != nil {
		panic(err)
	}
	return value, true
}

// modelBlock goes by the lexer's eye: the inside may stand if, with three quotes behind it, the first three that can close it are these.
func modelBlock(inside string) (string, bool) {
	for _, c := range inside {
		if !source(c) {
			return "", false
		}
	}
	if closedAt(inside+`"""`) != len(inside) {
		return "", false
	}
	oneEnd := strings.NewReplacer("\r\n", "\n", "\r", "\n").Replace(inside)
	kept := modelDedent(strings.Split(oneEnd, "\n"))
	return strings.ReplaceAll(strings.Join(kept, "\n"), `\"""`, `"""`), true
}

// closedAt is where three quotes close a block string.
func closedAt(s string) int {
	for i := 0; i < len(s); i++ {
		switch {
		case strings.HasPrefix(s[i:], `\"""`):
			i += 3
		case strings.HasPrefix(s[i:], `"""`):
			return i
		}
	}
	return -1
}

// modelDedent is P6.3 over texts, step by step as its words go.
func modelDedent(in []string) []string {
	const white = "\t "
	isBlank := func(line string) bool { return strings.Trim(line, white) == "" }
	common := -1
	for i, line := range in {
		n := len(line) - len(strings.TrimLeft(line, white))
		if i > 0 && !isBlank(line) && (common == -1 || n < common) {
			common = n
		}
	}
	var out []string
	for i, line := range in {
		if i > 0 && common > 0 {
			line = line[min(common, len(line)):]
		}
		out = append(out, line)
	}
	for len(out) > 0 && isBlank(out[0]) {
		out = out[1:]
	}
	for len(out) > 0 && isBlank(out[len(out)-1]) {
		out = out[:len(out)-1]
	}
	return out
}

// modelQuoteText is P6.4, of a value that is well formed.
func modelQuoteText(value string) string {
	out := `"`
	for _, c := range value {
		short, isShort := map[rune]string{'"': `\"`, '\\': `\\`, 8: `\b`, 9: `\t`, 0xA: `\n`, 0xC: `\f`, 0xD: `\r`}[c]
		switch {
		case isShort:
			out += short
		case c < 0x20 || c == 0x7F:
			out += fourDigits(c)
		case c > 0xFFFF:
			out += fourDigits(0xD7C0+c>>10) + fourDigits(0xDC00|c&0x3FF)
		default:
			out += string(c)
		}
	}
	return out + `"`
}

func fourDigits(c rune) string {
	hex := "000" + strings.ToUpper(strconv.FormatInt(int64(c), 16))
	return `\u` + hex[len(hex)-4:]
}

var (
	blankEnd  = regexp.MustCompile(`^[\t ]*(\n|$)|(\n|^)[\t ]*$`)
	flushLine = regexp.MustCompile(`(?m)^[^\t\n ]`)
)

// modelBlockText is P6.5, of a value that is well formed; "" where there is none.
func modelBlockText(value string) string {
	if value == "" {
		return `""""""`
	}
	if strings.ContainsFunc(value, func(c rune) bool { return !source(c) || c == 0xD }) {
		return ""
	}
	several := strings.Contains(value, "\n")
	if blankEnd.MatchString(value) || several && !flushLine.MatchString(value) {
		return ""
	}
	begin := "\n"
	if !several && !flushLine.MatchString(value) {
		begin = ""
	}
	var inside string
	for rest := value; rest != ""; {
		n := 1
		if strings.HasPrefix(rest, `"""`) {
			inside, n = inside+`\`, 3
		}
		inside, rest = inside+rest[:n], rest[n:]
	}
	return `"""` + begin + inside + "\n" + `"""`
}
