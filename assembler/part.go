package assembler

import (
	"crib/api"
	"crib/code"
)

// maxDigits: more are no number, even if they begin with zeros.
const maxDigits = 10

// fits tells whether a token may be a part of that kind.
func fits(kind rune, s string) bool {
	if kind == code.Register {
		return isRegister(s)
	}
	most := api.MaxK
	if kind == code.Value {
		most = code.MaxWord
	}
	n, ok := number(s)
	return ok && n <= most || isName(s)
}

func isRegister(s string) bool {
	return len(s) == 2 && s[0] == 'r' && s[1] >= '0' && s[1]-'0' < api.Regs
}

// register tells the number of a register's token.
func register(s string) int {
	return int(s[1] - '0')
}

func number(s string) (int, bool) {
	if s == "" || len(s) > maxDigits {
		return 0, false
	}
	n := 0
	for _, r := range s {
		if !isDigit(r) {
			return 0, false
		}
		n = n*10 + int(r-'0')
	}
	return n, true
}

func isName(s string) bool {
	count := 0
	for _, r := range s {
		if !isLetter(r) && (count == 0 || !isDigit(r)) {
			return false
		}
		count++
	}
	return count >= 1 && count <= api.MaxName && !isTaken(s)
}

// isTaken tells whether a name would be read as something else.
func isTaken(s string) bool {
	_, ok := code.ByName(s)
	return ok || isRegister(s)
}

func isLetter(r rune) bool {
	return r >= 'a' && r <= 'z' || r >= 'A' && r <= 'Z' || r == '_' || r >= 0x80
}

func isDigit(r rune) bool {
	return r >= '0' && r <= '9'
}
