package engine

import (
	"crib/api"
	"crib/block"
	"crib/machine"
	"crib/meaning"
	"crib/plans"
	"crib/translator"
)

// Run makes steps (P14).
func (e *Engine) Run(fuel int) (int, api.Errno) {
	if e.isOver() {
		return 0, api.ErrOver
	}
	if fuel < 0 || fuel > api.MaxFuel {
		return 0, api.ErrArg
	}
	steps := 0
	for e.state.Stop == api.Running && steps < fuel {
		steps += e.advance(fuel - steps)
	}
	return steps, api.OK
}

// advance runs the block at Pc if there is fuel for all of it, else makes one step; it tells how many steps that was.
func (e *Engine) advance(fuel int) int {
	w := block.At(e.state.Mem, e.state.Pc)
	if w.Len > fuel {
		e.step()
		return 1
	}
	e.runBlock(w)
	return w.Len
}

// step makes one step of a machine that runs: there is no error then.
func (e *Engine) step() {
	e.state, _ = machine.Step(e.state)
}

// runBlock does the plain words by a plan, which is one and so gives no error, and steps over the word behind them.
func (e *Engine) runBlock(w block.Words) {
	s := &e.state
	s.Regs, _ = plans.Do(e.planFor(w), s.Regs, s.Mem)
	s.Pc = (s.Pc + w.PlainLen()) % api.Size
	if w.PlainLen() < w.Len {
		e.step()
	}
}

// planFor gives a plan of the block, which is ready from then on.
func (e *Engine) planFor(w block.Words) string {
	plan, ok := e.ready.find(w)
	if ok {
		e.counts.Used++
		return plan
	}
	plan = e.prepare(w)
	e.ready.lay(w, plan)
	return plan
}

// prepare gives the plan that is known, if it is one of the block, else the block's own.
func (e *Engine) prepare(w block.Words) string {
	words := w.Text()
	plan, known := e.known.find(w)
	if known && meaning.Accept(words, plan) == api.OK {
		e.counts.Served++
		return plan
	}
	if known {
		e.counts.Refused++
	}
	e.counts.Translated++
	own, _ := translator.Translate(words)
	e.waiting.lay(w, own)
	return own
}
