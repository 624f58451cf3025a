package parts

import (
	"slices"

	"pergola/api"
)

// blank: is there no token to stand at?
func (c *Cursor) blank() bool {
	return c == nil || len(c.tokens) == 0
}

func (c *Cursor) dead() bool {
	return c.blank() || c.kind != api.OK
}

// Token is the token at which the cursor stands.
func (c *Cursor) Token() api.Token {
	if c.blank() {
		return api.Token{}
	}
	return c.tokens[c.at]
}

// Fault is the cursor's fault.
func (c *Cursor) Fault() (api.Fault, bool) {
	fault := c.told()
	return fault, fault.Kind != api.OK
}

// told is the cursor's fault, or the zero one.
func (c *Cursor) told() api.Fault {
	if c.blank() || c.kind == api.OK {
		return api.Fault{}
	}
	return api.Fault{Kind: c.kind, Pos: []api.Pos{c.Token().Pos}}
}

// Nesting is the number of brackets open.
func (c *Cursor) Nesting() int {
	if c == nil {
		return 0
	}
	return c.open
}

// IsPunct: is the token this punctuator?
func (c *Cursor) IsPunct(p string) bool {
	if c.dead() {
		return false
	}
	token := c.Token()
	return token.Kind == api.TokPunct && token.Text == p
}

// IsWord: is the token one of these names?
func (c *Cursor) IsWord(words ...string) bool {
	return c.isName() && slices.Contains(words, c.Token().Text)
}

func (c *Cursor) isName() bool {
	return !c.dead() && c.Token().Kind == api.TokName
}
