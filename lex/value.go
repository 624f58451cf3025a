package lex

import (
	"pergola/api"
	"pergola/number"
	"pergola/strval"
	"pergola/utf"
)

// number is read of a digit or a minus sign.
func (s source) number(from int) (kind api.TokKind, to int, value string) {
	to, _, form := number.Prefix(s.chars, from)
	// What goes on like a number or a name is neither two tokens nor one.
	if c := s.at(to); c == '.' || utf.NameRest(c) {
		return bad(from)
	}
	switch form {
	case api.FormWhole:
		return api.TokInt, to, ""
	case api.FormFraction:
		return api.TokFloat, to, ""
	}
	return bad(from)
}

// quotes is the length of what opens and closes a block string.
const quotes = 3

// tripleQuote: do three quotes stand from a number on?
func (s source) tripleQuote(i int) bool {
	for k := range quotes {
		if s.at(i+k) != '"' {
			return false
		}
	}
	return true
}

// block is read of three quotes.
func (s source) block(from int) (kind api.TokKind, to int, value string) {
	first := from + quotes
	i := first
	for !s.tripleQuote(i) {
		switch c := s.at(i); {
		case c == '\\' && s.tripleQuote(i+1):
			i += 1 + quotes
		case !utf.Source(c):
			return bad(from)
		default:
			i++
		}
	}
	value, _ = strval.Block(s.chars[first:i]) // never refused: the closing quotes are the first that can be
	return api.TokBlock, i + quotes, value
}

// quoted is read of a quote that opens no block string.
func (s source) quoted(from int) (kind api.TokKind, to int, value string) {
	first := from + 1
	i := first
	for s.at(i) != '"' {
		if s.at(i) == '\\' {
			i++
		}
		if c := s.at(i); c == '\n' || c == '\r' || !utf.Source(c) {
			return bad(from)
		}
		i++
	}
	value, errno := strval.Quoted(s.chars[first:i])
	if errno != api.OK {
		return bad(from)
	}
	return api.TokString, i + 1, value
}
