// Package meaning: what registers come to, by a block and by a plan.
package meaning

import (
	"crib/api"
	"crib/block"
	"crib/code"
	"crib/plans"
)

// Accept tells whether a plan is one of a block (P7).
func Accept(words string, plan string) api.Errno {
	w, ok := block.Read(words)
	if !ok {
		return api.ErrBlock
	}
	puts, e := plans.Puts(plan)
	if e != api.OK {
		return e
	}
	t := table{numbers: map[expression]int{}}
	if t.comeTo(plans.OfWords(w.Plain())) == t.comeTo(puts) {
		return api.OK
	}
	return api.ErrOther
}

// comeTo gives the expressions that the registers come to by puts, by their numbers in the table.
func (t *table) comeTo(puts []api.Put) [api.Regs]int {
	var slots [api.Slots]int
	for i := range slots {
		if i < api.Regs {
			slots[i] = t.register(i)
		} else {
			slots[i] = t.constant(0)
		}
	}
	for _, p := range puts {
		slots[p.D] = t.value(p, slots)
	}
	return [api.Regs]int(slots[:api.Regs])
}

// value gives the expression that a put lays into its slot.
func (t *table) value(p api.Put, slots [api.Slots]int) int {
	switch p.Kind {
	case api.Set:
		return t.constant(p.K)
	case api.Load:
		return t.load(slots[p.A], p.K)
	case api.Move:
		return slots[p.A]
	}
	return t.op(p.Kind, slots[p.A], slots[p.B])
}

// op gives an op of two expressions, in its shortest form.
func (t *table) op(kind, a, b int) int {
	x, y := t.list[a], t.list[b]
	if x.kind == constant && y.kind == constant {
		return t.constant(code.Reckon(kind, x.k, y.k))
	}
	return t.hold(expression{kind: kind, a: a, b: b})
}

// load gives a load from an expression plus k, in its shortest form.
func (t *table) load(a, k int) int {
	if x := t.list[a]; x.kind == constant {
		a, k = t.constant(code.Address(x.k, k)), 0
	}
	return t.hold(expression{kind: api.Load, a: a, k: k})
}
