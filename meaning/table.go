package meaning

import "crib/api"

// The kinds of expressions, beside those that have the numbers of their instructions.
const (
	constant = api.Set
	register = 0
)

// expression is one in its shortest form. Those in it are told by their numbers in the table, so that an expression is as small whatever is in it, and two are the same just if these fields are.
type expression struct {
	kind int
	a, b int // expressions
	k    int // a constant, a register's number, or what is added to an address
}

// table holds each expression once: its number is where it stands in list.
type table struct {
	numbers map[expression]int
	list    []expression
}

func (t *table) hold(e expression) int {
	n, ok := t.numbers[e]
	if !ok {
		n = len(t.list)
		t.numbers[e] = n
		t.list = append(t.list, e)
	}
	return n
}

func (t *table) constant(v int) int {
	return t.hold(expression{kind: constant, k: v})
}

func (t *table) register(q int) int {
	return t.hold(expression{kind: register, k: q})
}
