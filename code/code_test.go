package code

import (
	"testing"

	"crib/api"
)

func TestSplitAndJoin(t *testing.T) {
	for _, c := range []struct {
		word int
		f    Fields
	}{
		{0, Fields{}},
		{0x12345678, Fields{0x12, 3, 4, 5, 0x678}},
		{MaxWord, Fields{255, 15, 15, 15, 4095}},
		{0x00001000, Fields{C: 1}},
		{0x00000fff, Fields{K: 4095}},
	} {
		if got := Split(c.word); got != c.f {
			t.Errorf("Split(%08x) = %v, want %v", c.word, got, c.f)
		}
		if got := Join(c.f); got != c.word {
			t.Errorf("Join(%v) = %08x, want %08x", c.f, got, c.word)
		}
	}
}

func TestIsWord(t *testing.T) {
	for v, want := range map[int]bool{0: true, 1<<32 - 1: true, -1: false, 1 << 32: false, -1 << 63: false, 1<<63 - 1: false} {
		if got := IsWord(v); got != want {
			t.Errorf("IsWord(%d) = %v", v, got)
		}
	}
}

func TestRowsByOpAndName(t *testing.T) {
	names := []string{"halt", "set", "add", "sub", "xor", "mul", "load", "store", "same", "jump", "turn"}
	for op, name := range names {
		r, ok := ByOp(op)
		if !ok || r.Name != name {
			t.Errorf("ByOp(%d) = %q, %v, want %q", op, r.Name, ok, name)
		}
		if n, ok := ByName(name); !ok || n != r {
			t.Errorf("ByName(%q) = %v, %v, want %v", name, n, ok, r)
		}
	}
	for op := len(names); op < 256; op++ {
		if r, ok := ByOp(op); ok || r != (Row{}) {
			t.Errorf("ByOp(%d) = %v: there is none", op, r)
		}
	}
	if r, ok := ByName("word"); !ok || r.Op != NoOp {
		t.Errorf("ByName(word) = %v, %v", r, ok)
	}
	for _, name := range []string{"", "Halt", "move", "wor", "words"} {
		if r, ok := ByName(name); ok || r != (Row{}) {
			t.Errorf("ByName(%q) = %v: there is none", name, r)
		}
	}
}

// How many of the fields A, B, C each instruction uses, by OP.
var used = []int{api.Halt: 0, api.Set: 1, api.Add: 3, api.Sub: 3, api.Xor: 3, api.Mul: 3, api.Load: 2, api.Store: 2, api.Same: 2, api.Jump: 0, api.Turn: 1}

func TestIsInstruction(t *testing.T) {
	for op := range 256 {
		for regs := range 16 * 16 * 16 {
			f := Fields{Op: op, A: regs >> 8, B: regs >> 4 & 15, C: regs & 15, K: 4095}
			want := op < len(used)
			for i, r := range []int{f.A, f.B, f.C} {
				want = want && (i >= used[op] || r <= 7)
			}
			if got := IsInstruction(f); got != want {
				t.Fatalf("IsInstruction(%v) = %v", f, got)
			}
		}
	}
}

func TestIsPlain(t *testing.T) {
	for op := range 256 {
		if got := IsPlain(Fields{Op: op, A: 7}); got != (op >= api.Set && op <= api.Load) {
			t.Errorf("IsPlain of the OP %d = %v", op, got)
		}
		if got := IsPlain(Fields{Op: op, A: 8}); got {
			t.Errorf("IsPlain of the OP %d with a register 8 = %v", op, got)
		}
		if got := IsArithmetic(op); got != (op >= api.Add && op <= api.Mul) {
			t.Errorf("IsArithmetic(%d) = %v", op, got)
		}
	}
}
