package lex_test

import (
	"regexp"
	"strings"
	"unicode/utf8"

	"pergola/api"
	"pergola/strval"
)

// The rules of the chapter once more, as patterns over a text in which U+0000 stands for each barred character.
var (
	ignored = regexp.MustCompile(`^(?:[\t\n\r ,\x{FEFF}]|#[^\n\r\x00]*)*`)
	punct   = regexp.MustCompile(`^(?:\.\.\.|[!$&():=@\[\]{|}])`)
	name    = regexp.MustCompile(`^[A-Za-z_][0-9A-Za-z_]*`)
	whole   = regexp.MustCompile(`^-?(?:0|[1-9][0-9]*)`)
	float   = regexp.MustCompile(`^-?(?:0|[1-9][0-9]*)(?:\.[0-9]+[eE][+-]?[0-9]+|\.[0-9]+|[eE][+-]?[0-9]+)`)
	goesOn  = regexp.MustCompile(`^[0-9.A-Za-z_]`)
	quoted  = regexp.MustCompile(`^"(?:[^"\\\n\r\x00]|\\[^\n\r\x00])*"`)
	lineEnd = regexp.MustCompile(`\r\n|\r|\n`)
)

// plain is the text of the characters for the patterns; the bad character is one more barred one.
func plain(chars []rune, clean bool) string {
	var out strings.Builder
	for _, c := range chars {
		if !isSource(c) {
			c = 0
		}
		out.WriteRune(c)
	}
	if !clean {
		out.WriteByte(0)
	}
	return out.String()
}

// place is the place behind the text that stands ahead of a character, which ends with no CR if a LF follows.
func place(ahead, rest string) api.Pos {
	if strings.HasSuffix(ahead, "\r") && strings.HasPrefix(rest, "\n") {
		p := place(strings.TrimSuffix(ahead, "\r"), "")
		return api.Pos{Line: p.Line, Col: p.Col + 1}
	}
	lines := lineEnd.Split(ahead, -1)
	return api.Pos{Line: len(lines), Col: 1 + utf8.RuneCountInString(lines[len(lines)-1])}
}

// blockLength is the length of the block string at the beginning of rest, -1 if none is there.
func blockLength(rest string) int {
	const mark = `"""`
	inside := strings.ReplaceAll(rest[len(mark):], `\"""`, "....")
	length := strings.Index(inside, mark)
	if length < 0 || strings.Contains(inside[:length], "\x00") {
		return -1
	}
	return length + 2*len(mark)
}

// modelRead is the kind, the text and the value of what stands at the beginning of rest.
func modelRead(rest string) (api.TokKind, string, string) {
	switch {
	case rest == "":
		return api.TokEnd, "", ""
	case punct.MatchString(rest):
		return api.TokPunct, punct.FindString(rest), ""
	case name.MatchString(rest):
		return api.TokName, name.FindString(rest), ""
	case float.MatchString(rest):
		return modelNumber(api.TokFloat, float.FindString(rest), rest)
	case whole.MatchString(rest):
		return modelNumber(api.TokInt, whole.FindString(rest), rest)
	case strings.HasPrefix(rest, `"""`):
		if n := blockLength(rest); n > 0 {
			value, errno := strval.Block([]rune(rest[3 : n-3]))
			if errno != api.OK {
				panic("a block string is refused: " + rest)
			}
			return api.TokBlock, rest[:n], value
		}
	case quoted.MatchString(rest):
		text := quoted.FindString(rest)
		if value, errno := strval.Quoted([]rune(text[1 : len(text)-1])); errno == api.OK {
			return api.TokString, text, value
		}
	}
	return api.TokBad, "", ""
}

func modelNumber(kind api.TokKind, text, rest string) (api.TokKind, string, string) {
	if goesOn.MatchString(rest[len(text):]) {
		return api.TokBad, "", ""
	}
	return kind, text, ""
}

// modelNext is what Next must answer.
func modelNext(chars []rune, clean bool, i int) api.Token {
	i = max(0, min(i, len(chars)))
	all := plain(chars, clean)
	begin := len(plain(chars[:i], true))
	from := begin + len(ignored.FindString(all[begin:]))
	kind, text, value := modelRead(all[from:])
	first := utf8.RuneCountInString(all[:from])
	return api.Token{
		Kind:  kind,
		Pos:   place(all[:from], all[from:]),
		From:  first,
		To:    first + utf8.RuneCountInString(text),
		Text:  text,
		Value: value,
	}
}

// modelDecode is the characters of the longest beginning that is UTF-8, and whether it is all.
func modelDecode(src string) ([]rune, bool) {
	var chars []rune
	for i, c := range src {
		if _, size := utf8.DecodeRuneInString(src[i:]); c == utf8.RuneError && size < 2 {
			return chars, false
		}
		chars = append(chars, c)
	}
	return chars, true
}

// modelTokens is what Tokens must answer.
func modelTokens(src string) []api.Token {
	chars, clean := modelDecode(src)
	var out []api.Token
	for i := 0; ; i = out[len(out)-1].To {
		out = append(out, modelNext(chars, clean, i))
		if out[len(out)-1].Kind <= api.TokBad {
			return out
		}
	}
}
