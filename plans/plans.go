// Package plans: plans, as texts and as puts, and the doing of them.
package plans

import (
	"crib/api"
	"crib/code"
	"crib/number"
)

// Puts tells the puts of a plan (P6).
func Puts(plan string) ([]api.Put, api.Errno) {
	if len(plan)%api.PutLen != 0 || len(plan) > api.MaxPuts*api.PutLen {
		return nil, api.ErrPlan
	}
	var puts []api.Put
	for at := 0; at < len(plan); at += api.PutLen {
		p := readPut(plan[at : at+api.PutLen])
		if !isPut(p) {
			return nil, api.ErrPlan
		}
		puts = append(puts, p)
	}
	return puts, api.OK
}

func readPut(s string) api.Put {
	return api.Put{
		Kind: int(s[0]),
		D:    int(s[1]),
		A:    int(s[2]),
		B:    int(s[3]),
		K:    number.Read(s[4:]),
	}
}

// isPut tells whether p, which came out of bytes, may stand in a plan. What a kind does not use must be 0: so a plan has one text alone.
func isPut(p api.Put) bool {
	if p.D >= api.Slots || p.A >= api.Slots || p.B >= api.Slots {
		return false
	}
	switch {
	case p.Kind == api.Set:
		return p.A == 0 && p.B == 0
	case code.IsArithmetic(p.Kind):
		return p.K == 0
	case p.Kind == api.Load:
		return p.B == 0 && p.K <= api.MaxK
	case p.Kind == api.Move:
		return p.B == 0 && p.K == 0
	}
	return false
}

// Text gives the text of a plan; Puts undoes it.
func Text(puts []api.Put) string {
	var b []byte
	for _, p := range puts {
		b = append(b, byte(p.Kind), byte(p.D), byte(p.A), byte(p.B))
		b = number.Append(b, p.K, 4)
	}
	return string(b)
}

// OfWords gives puts that do what plain words do, one for each.
func OfWords(words []code.Fields) []api.Put {
	var puts []api.Put
	for _, f := range words {
		puts = append(puts, ofWord(f))
	}
	return puts
}

func ofWord(f code.Fields) api.Put {
	switch f.Op {
	case api.Set:
		return api.Put{Kind: api.Set, D: f.A, K: f.K}
	case api.Load:
		return api.Put{Kind: api.Load, D: f.A, A: f.B, K: f.K}
	}
	return api.Put{Kind: f.Op, D: f.A, A: f.B, B: f.C}
}

// Do does a plan (P6).
func Do(plan string, regs [api.Regs]int, mem [api.Size]int) ([api.Regs]int, api.Errno) {
	if !code.AreWords(regs[:]) || !code.AreWords(mem[:]) {
		return [api.Regs]int{}, api.ErrState
	}
	puts, e := Puts(plan)
	if e != api.OK {
		return [api.Regs]int{}, e
	}
	var slots [api.Slots]int
	copy(slots[:], regs[:])
	for _, p := range puts {
		slots[p.D] = value(p, slots, mem)
	}
	return [api.Regs]int(slots[:api.Regs]), api.OK
}

// value gives what a put lays into its slot.
func value(p api.Put, slots [api.Slots]int, mem [api.Size]int) int {
	switch p.Kind {
	case api.Set:
		return p.K
	case api.Load:
		return mem[code.Address(slots[p.A], p.K)]
	case api.Move:
		return slots[p.A]
	}
	return code.Reckon(p.Kind, slots[p.A], slots[p.B])
}
