// Package machine: the machine, one step at a time.
package machine

import (
	"crib/api"
	"crib/code"
)

// Step makes a step of the machine (P3).
func Step(s api.State) (api.State, api.Errno) {
	if !IsState(s) {
		return api.State{}, api.ErrState
	}
	if s.Stop != api.Running {
		return api.State{}, api.ErrStop
	}
	f := code.Split(s.Mem[s.Pc])
	if !code.IsInstruction(f) {
		s.Stop = api.Trapped
		return s, api.OK
	}
	return perform(s, f), api.OK
}

// IsState tells whether all of s is in its range.
func IsState(s api.State) bool {
	return code.AreWords(s.Regs[:]) && code.AreWords(s.Mem[:]) &&
		s.Pc >= 0 && s.Pc < api.Size &&
		s.Stop >= api.Running && s.Stop <= api.Trapped
}

// perform does an instruction on a machine that runs.
func perform(s api.State, f code.Fields) api.State {
	next := (s.Pc + 1) % api.Size
	switch f.Op {
	case api.Halt:
		s.Stop = api.Halted
		next = s.Pc
	case api.Set:
		s.Regs[f.A] = f.K
	case api.Add, api.Sub, api.Xor, api.Mul:
		s.Regs[f.A] = code.Reckon(f.Op, s.Regs[f.B], s.Regs[f.C])
	case api.Load:
		s.Regs[f.A] = s.Mem[code.Address(s.Regs[f.B], f.K)]
	case api.Store:
		s.Mem[code.Address(s.Regs[f.B], f.K)] = s.Regs[f.A]
	case api.Same:
		if s.Regs[f.A] == s.Regs[f.B] {
			next = f.K % api.Size
		}
	case api.Jump:
		next = f.K % api.Size
	case api.Turn:
		next = s.Regs[f.A] % api.Size
	}
	s.Pc = next
	return s
}
