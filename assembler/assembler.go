// Package assembler: from a program's text to its words.
package assembler

import (
	"strings"

	"crib/api"
	"crib/code"
)

// fault is an error with its place; the zero fault is none.
type fault struct {
	at  api.Place
	err api.Errno
}

// use is a label that stands as a part of a word.
type use struct {
	word  int
	label token
}

// program is what has been read of a text.
type program struct {
	words  []int
	labels map[string]int
	uses   []use
}

// Assemble tells the words of a program's text (P4).
func Assemble(s string) ([]int, api.Place, api.Errno) {
	words, f := assemble(s)
	if f.err != api.OK {
		return nil, f.at, f.err
	}
	return words, api.Place{}, api.OK
}

func assemble(s string) ([]int, fault) {
	if len(s) > api.MaxText {
		return nil, fault{err: api.ErrLong}
	}
	lines, f := cut(s)
	if f.err != api.OK {
		return nil, f
	}
	p := program{labels: map[string]int{}}
	for _, line := range lines {
		if f := p.readLine(line); f.err != api.OK {
			return nil, f
		}
	}
	return p.words, p.fillLabels()
}

func (p *program) readLine(line []token) fault {
	if len(line) == 0 {
		return fault{}
	}
	if name, ok := strings.CutSuffix(line[0].text, ":"); ok && isName(name) {
		if _, there := p.labels[name]; there {
			return fault{line[0].from, api.ErrTwice}
		}
		p.labels[name] = len(p.words)
		line = line[1:]
	}
	if len(line) == 0 {
		return fault{}
	}
	return p.readInstruction(line[0], line[1:])
}

func (p *program) readInstruction(head token, parts []token) fault {
	row, ok := code.ByName(head.text)
	if !ok {
		return fault{head.from, api.ErrLine}
	}
	if f := checkParts(row, head, parts); f.err != api.OK {
		return f
	}
	if len(p.words) == api.Size {
		return fault{head.from, api.ErrMany}
	}
	p.lay(row, parts)
	return fault{}
}

// checkParts finds the first part that is wrong, too many or lacking.
func checkParts(row code.Row, head token, parts []token) fault {
	last := head
	for i, t := range parts {
		if i >= len(row.Parts) || !fits(rune(row.Parts[i]), t.text) {
			return fault{t.from, api.ErrLine}
		}
		last = t
	}
	if len(parts) < len(row.Parts) {
		return fault{last.behind, api.ErrLine}
	}
	return fault{}
}

// lay adds the word of an instruction whose parts are right. A label's place is left 0: it may not be known yet.
func (p *program) lay(row code.Row, parts []token) {
	var regs [3]int
	k := 0
	for i, t := range parts {
		if row.Parts[i] == code.Register {
			regs[i] = register(t.text)
		} else if n, ok := number(t.text); ok {
			k = n
		} else {
			p.uses = append(p.uses, use{len(p.words), t})
		}
	}
	word := k
	if row.Op != code.NoOp {
		word = code.Join(code.Fields{Op: row.Op, A: regs[0], B: regs[1], C: regs[2], K: k})
	}
	p.words = append(p.words, word)
}

// fillLabels adds the labels' places to the words that use them.
func (p *program) fillLabels() fault {
	for _, u := range p.uses {
		place, there := p.labels[u.label.text]
		if !there {
			return fault{u.label.from, api.ErrName}
		}
		p.words[u.word] += place
	}
	return fault{}
}
