package assembler

import (
	"strings"
	"unicode/utf8"

	"crib/api"
)

// token is a piece of a line, with the place of its first character and the one behind its last.
type token struct {
	text         string
	from, behind api.Place
}

// cutter cuts a text into lines of tokens, while it is gone through.
type cutter struct {
	text   string
	at     api.Place // of the next character
	begin  int       // where the token at hand begins in the text; -1, if there is none
	from   api.Place // its place
	remark bool      // a ; has been met in this line
	line   []token
	lines  [][]token
}

// cut gives the lines of s, or the place of the first byte that begins no character.
func cut(s string) ([][]token, fault) {
	c := cutter{text: s, at: api.Place{Line: 1, Column: 1}, begin: -1}
	for i, r := range s {
		// A bad byte comes out as U+FFFD, which may also stand in the text itself.
		if r == utf8.RuneError && !strings.HasPrefix(s[i:], string(utf8.RuneError)) {
			return nil, fault{c.at, api.ErrText}
		}
		c.take(i, r)
	}
	c.endLine(len(s))
	return c.lines, fault{}
}

// take goes over the character r, which stands at i.
func (c *cutter) take(i int, r rune) {
	switch {
	case r == '\n':
		c.endLine(i)
		return
	case r == ';':
		c.endToken(i)
		c.remark = true
	case c.remark:
	case r == ' ' || r == '\t':
		c.endToken(i)
	case c.begin < 0:
		c.begin, c.from = i, c.at
	}
	c.at.Column++
}

// endToken ends the token at hand, if there is one, ahead of i.
func (c *cutter) endToken(i int) {
	if c.begin >= 0 {
		c.line = append(c.line, token{c.text[c.begin:i], c.from, c.at})
		c.begin = -1
	}
}

func (c *cutter) endLine(i int) {
	c.endToken(i)
	c.lines = append(c.lines, c.line)
	c.line, c.remark = nil, false
	c.at = api.Place{Line: c.at.Line + 1, Column: 1}
}
