// Package code: what the machine's words are made of, and its instructions.
package code

import (
	"strings"

	"crib/api"
)

// MaxWord is the greatest word.
const MaxWord = 1<<32 - 1

// Fields are the pieces of a word.
type Fields struct {
	Op, A, B, C, K int
}

// Split takes a word apart.
func Split(word int) Fields {
	return Fields{
		Op: word >> 24 & 255,
		A:  word >> 20 & 15,
		B:  word >> 16 & 15,
		C:  word >> 12 & 15,
		K:  word & 4095,
	}
}

// Join puts a word together; it undoes Split.
func Join(f Fields) int {
	return f.Op<<24 | f.A<<20 | f.B<<16 | f.C<<12 | f.K
}

// IsWord tells whether v is in the range of words.
func IsWord(v int) bool {
	return v >= 0 && v <= MaxWord
}

// AreWords tells whether all of list are in the range of words.
func AreWords(list []int) bool {
	for _, v := range list {
		if !IsWord(v) {
			return false
		}
	}
	return true
}

// The letters of a row's parts.
const (
	Register = 'r'
	Number   = 'n' // up to MaxK, or a label
	Value    = 'v' // any word, or a label
)

// NoOp stands in the row of what lays a number as it is. It is no OP of any word.
const NoOp = -1

// Row tells of one instruction what it is called, and its parts, a letter each. Its registers are the fields A, B, C, in their order.
type Row struct {
	Name  string
	Op    int
	Parts string
}

var rows = [...]Row{
	{"halt", api.Halt, ""},
	{"set", api.Set, "rn"},
	{"add", api.Add, "rrr"},
	{"sub", api.Sub, "rrr"},
	{"xor", api.Xor, "rrr"},
	{"mul", api.Mul, "rrr"},
	{"load", api.Load, "rrn"},
	{"store", api.Store, "rrn"},
	{"same", api.Same, "rrn"},
	{"jump", api.Jump, "n"},
	{"turn", api.Turn, "r"},
	{"word", NoOp, "v"},
}

// ByName finds the row that is called so.
func ByName(name string) (Row, bool) {
	for _, r := range rows {
		if r.Name == name {
			return r, true
		}
	}
	return Row{}, false
}

// ByOp finds the row of an OP.
func ByOp(op int) (Row, bool) {
	for _, r := range rows {
		if r.Op == op {
			return r, true
		}
	}
	return Row{}, false
}

// IsInstruction tells whether a word with these fields is an instruction: fields that it does not use may be anything.
func IsInstruction(f Fields) bool {
	row, ok := ByOp(f.Op)
	if !ok {
		return false
	}
	used := strings.Count(row.Parts, string(Register))
	for i, r := range [3]int{f.A, f.B, f.C} {
		if i < used && r >= api.Regs {
			return false
		}
	}
	return true
}

// IsPlain tells whether a word with these fields is an instruction that changes a register and nothing else.
func IsPlain(f Fields) bool {
	return (f.Op == api.Set || f.Op == api.Load || IsArithmetic(f.Op)) && IsInstruction(f)
}

// IsArithmetic tells whether an OP gives a word out of two others.
func IsArithmetic(op int) bool {
	return op == api.Add || op == api.Sub || op == api.Xor || op == api.Mul
}

// Reckon gives x op y, for an OP that IsArithmetic. It works on 32 bits, as these wrap round where words do.
func Reckon(op, x, y int) int {
	a, b := uint32(x), uint32(y)
	switch op {
	case api.Add:
		a += b
	case api.Sub:
		a -= b
	case api.Xor:
		a ^= b
	case api.Mul:
		a *= b
	}
	return int(a)
}

// Address gives the place of memory that a load or a store is about.
func Address(base, k int) int {
	return (base + k) % api.Size
}
