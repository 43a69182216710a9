// Package translator: a block's own plan.
package translator

import (
	"slices"

	"crib/api"
	"crib/block"
	"crib/code"
	"crib/plans"
)

// Translate tells a block's own plan (P8).
func Translate(words string) (string, api.Errno) {
	w, ok := block.Read(words)
	if !ok {
		return "", api.ErrBlock
	}
	return plans.Text(withoutIdle(withKnown(plans.OfWords(w.Plain())))), api.OK
}

// withKnown gives the puts with Sets in place of those ops whose two registers are known.
func withKnown(puts []api.Put) []api.Put {
	var last [api.Regs]api.Put
	var list []api.Put
	for _, p := range puts {
		x, y := last[p.A], last[p.B]
		if code.IsArithmetic(p.Kind) && x.Kind == api.Set && y.Kind == api.Set {
			p = api.Put{Kind: api.Set, D: p.D, K: code.Reckon(p.Kind, x.K, y.K)}
		}
		last[p.D] = p
		list = append(list, p)
	}
	return list
}

// withoutIdle gives the puts without those whose slot nobody needs.
func withoutIdle(puts []api.Put) []api.Put {
	needed := [api.Regs]bool{true, true, true, true, true, true, true, true}
	var list []api.Put
	for _, p := range slices.Backward(puts) {
		if !needed[p.D] {
			continue
		}
		list = append(list, p)
		needed[p.D] = false
		if p.Kind != api.Set {
			needed[p.A] = true
		}
		if code.IsArithmetic(p.Kind) {
			needed[p.B] = true
		}
	}
	slices.Reverse(list)
	return list
}
