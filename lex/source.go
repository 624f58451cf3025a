package lex

import (
	"strings"

	"pergola/api"
	"pergola/utf"
)

// source is a source's characters; if it is not clean, the bad character stands behind them.
type source struct {
	chars []rune
	clean bool
}

// barred stands for the bad character, and for all that lies behind the last: no class has it, and it is none that a rule names.
const barred rune = -1

// punctuators are those of one character.
const punctuators = "!$&():=@[]{|}"

// at is the character of a number.
func (s source) at(i int) rune {
	if i < len(s.chars) {
		return s.chars[i]
	}
	return barred
}

// next is the first token from a number on, without its place.
func (s source) next(i int) api.Token {
	from := s.behindIgnored(i)
	kind, to, value := s.read(from)
	text, _ := utf.Encode(s.chars[from:to]) // no token has a barred character
	return api.Token{Kind: kind, From: from, To: to, Text: text, Value: value}
}

// behindIgnored is the number of the first character from i on that isn't ignored. A barred one in a comment ends the passing over too: no token begins with it, so it is told as a bad one.
func (s source) behindIgnored(i int) int {
between:
	for ; ; i++ {
		switch c := s.at(i); {
		case utf.Blank(c):
			continue between
		case c != '#':
			break between
		}
		for {
			i++
			switch c := s.at(i); {
			case c == '\n' || c == '\r':
				continue between
			case !utf.Source(c):
				break between
			}
		}
	}
	return i
}

// read is the kind of the token whose first character has the number from, the number behind its last one, and its value.
func (s source) read(from int) (kind api.TokKind, to int, value string) {
	to = from + 1
	switch c := s.at(from); {
	case from == len(s.chars) && s.clean:
		return api.TokEnd, from, ""
	case c == '.':
		if s.at(from+1) != '.' || s.at(from+2) != '.' {
			break
		}
		to = from + 3
		fallthrough
	case strings.ContainsRune(punctuators, c):
		return api.TokPunct, to, ""
	case utf.NameStart(c):
		return api.TokName, s.behindName(to), ""
	case c == '-' || utf.Digit(c):
		return s.number(from)
	case s.tripleQuote(from):
		return s.block(from)
	case c == '"':
		return s.quoted(from)
	}
	return bad(from)
}

// bad is what read answers where no token stands.
func bad(from int) (kind api.TokKind, to int, value string) {
	return api.TokBad, from, ""
}

// behindName is the number behind the rest of a name.
func (s source) behindName(i int) int {
	for utf.NameRest(s.at(i)) {
		i++
	}
	return i
}
