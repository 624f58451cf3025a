package printer

import (
	"strings"

	"pergola/strval"
)

// piece is what is printed: words, strings, line ends, and other pieces put together. Each kind lays its own text.
type piece interface {
	lay(p *page)
}

// page is the text that is laid so far; level is the number of braces that are open there.
type page struct {
	strings.Builder
	level int
}

// word is laid as it stands.
type word string

func (w word) lay(p *page) {
	p.WriteString(string(w))
}

// quote is a string of either kind. Of a value that no such string has, nothing is laid: no source gives one.
type quote struct {
	block bool
	value string
}

func (q quote) lay(p *page) {
	var text string
	if q.block {
		text, _ = strval.BlockText(q.value)
	} else {
		text, _ = strval.QuoteText(q.value)
	}
	p.WriteString(text) // a block string's lines too: an indent ahead of them could change the value
}

// line ends a line and indents the next.
type line struct{}

func (line) lay(p *page) {
	p.WriteByte('\n')
	for range p.level {
		p.WriteString("  ")
	}
}

// row is pieces one right behind the other.
type row []piece

func (r row) lay(p *page) {
	for _, part := range r {
		part.lay(p)
	}
}

// listed is pieces with marks around them and between each two.
type listed struct {
	parts                  []piece
	ahead, between, behind string
}

func (l listed) lay(p *page) {
	p.WriteString(l.ahead)
	for i, part := range l.parts {
		if i > 0 {
			p.WriteString(l.between)
		}
		part.lay(p)
	}
	p.WriteString(l.behind)
}

// braces is pieces in curly brackets, each on a line of its own.
type braces []piece

func (b braces) lay(p *page) {
	p.WriteByte('{')
	p.level++
	for _, part := range b {
		row{line{}, part}.lay(p)
	}
	p.level--
	line{}.lay(p)
	p.WriteByte('}')
}

// ifAny is listed, but nothing if there are no parts.
func ifAny(parts []piece, ahead, between, behind string) piece {
	if len(parts) == 0 {
		return row{}
	}
	return listed{parts, ahead, between, behind}
}

func rounded(parts []piece) piece {
	return ifAny(parts, "(", ", ", ")")
}

// braced is braces with a text ahead of them, but nothing if there are no parts.
func braced(ahead string, parts []piece) piece {
	if len(parts) == 0 {
		return row{}
	}
	return row{word(ahead), braces(parts)}
}

// each is the pieces of a list's elements.
func each[E any](list []E, as func(E) piece) []piece {
	parts := make([]piece, len(list))
	for i, element := range list {
		parts[i] = as(element)
	}
	return parts
}
