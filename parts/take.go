package parts

import (
	"slices"

	"pergola/api"
)

// Punct takes this punctuator, if it stands there.
func (c *Cursor) Punct(p string) bool {
	return c.takeIf(c.IsPunct(p))
}

// Word takes this name, if it stands there.
func (c *Cursor) Word(w string) bool {
	return c.takeIf(c.IsWord(w))
}

// Want takes this punctuator; anything else is a fault.
func (c *Cursor) Want(p string) bool {
	return c.takeIf(c.holds(c.IsPunct(p)))
}

// WantWord takes one of these names; anything else is a fault.
func (c *Cursor) WantWord(words ...string) (api.Named, bool) {
	return c.name(c.IsWord(words...))
}

// Name takes a name that is none of these; anything else is a fault.
func (c *Cursor) Name(but ...string) (api.Named, bool) {
	return c.name(c.isName() && !slices.Contains(but, c.Token().Text))
}

// Open takes a bracket and counts it.
func (c *Cursor) Open(p string) bool {
	if !c.holds(c.IsPunct(p)) {
		return false
	}
	if c.open >= c.most {
		c.refuse(api.ErrDepth)
		return false
	}
	c.open++
	return c.takeIf(true)
}

// Close takes a bracket and counts it off.
func (c *Cursor) Close(p string) bool {
	if !c.Want(p) {
		return false
	}
	c.open = max(0, c.open-1)
	return true
}

// End: is the token the end? Anything else is a fault.
func (c *Cursor) End() bool {
	return c.holds(!c.dead() && c.Token().Kind == api.TokEnd)
}

// Refuse makes the token a fault.
func (c *Cursor) Refuse() {
	c.refuse(api.ErrSyntax)
}

// refuse keeps the first fault alone.
func (c *Cursor) refuse(kind api.Errno) {
	if !c.dead() {
		c.kind = kind
	}
}

// holds makes the token a fault unless what is said of it is so.
func (c *Cursor) holds(so bool) bool {
	if !so {
		c.Refuse()
	}
	return so
}

// name takes the token as a name, if it is one that may stand there.
func (c *Cursor) name(so bool) (api.Named, bool) {
	if !c.holds(so) {
		return api.Named{}, false
	}
	token := c.take()
	return api.Named{Name: token.Text, Pos: token.Pos}, true
}

func (c *Cursor) takeIf(so bool) bool {
	if so {
		c.take()
	}
	return so
}

// take goes on to the next token and answers the one that it leaves. It isn't asked of a TokEnd or a TokBad, so that there is a next one.
func (c *Cursor) take() api.Token {
	token := c.tokens[c.at]
	c.at++
	return token
}
