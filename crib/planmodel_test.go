package crib_test

import (
	"encoding/binary"
	"encoding/hex"
	"math/big"
	"strconv"
	"strings"

	"crib/api"
)

// bytes gives the text whose bytes are told by hexadecimal digits.
func bytes(digits string) string {
	b, err := hex.DecodeString(strings.ReplaceAll(digits, " ", ""))
	if err != nil {
		panic(err)
	}
	return string(b)
}

// text gives the text of words.
func text(words ...int) string {
	var b []byte
	for _, w := range words {
		b = binary.BigEndian.AppendUint32(b, uint32(w))
	}
	return string(b)
}

// planText gives the text of puts.
func planText(puts ...api.Put) string {
	var b []byte
	for _, p := range puts {
		b = append(b, byte(p.Kind), byte(p.D), byte(p.A), byte(p.B))
		b = binary.BigEndian.AppendUint32(b, uint32(p.K))
	}
	return string(b)
}

// The models tell P5 to P8 a second time, in other ways than the program: expressions are texts there, and numbers have no bound.

func modelPlain(word int) bool {
	digits := hex.EncodeToString([]byte(text(word)))
	used, ok := map[string]int{"01": 1, "02": 3, "03": 3, "04": 3, "05": 3, "06": 2}[digits[:2]]
	return ok && !strings.ContainsAny(digits[2:2+used], "89abcdef")
}

// modelWords gives the words of a block whose text s is, or none.
func modelWords(s string) []int {
	if len(s) == 0 || len(s) > 32 || len(s)%4 != 0 {
		return nil
	}
	var words []int
	for b := []byte(s); len(b) > 0; b = b[4:] {
		word := int(binary.BigEndian.Uint32(b))
		words = append(words, word)
		if !modelPlain(word) && len(b) > 4 {
			return nil
		}
	}
	return words
}

func modelBlock(mem [api.Size]int, pc int) string {
	n := 1
	for n < 8 && pc+n < 128 && modelPlain(mem[pc+n-1]) {
		n++
	}
	return text(mem[pc : pc+n]...)
}

// modelPuts gives the puts of a plan, and whether it is one.
func modelPuts(plan string) ([]api.Put, bool) {
	if len(plan)%8 != 0 || len(plan) > 80 {
		return nil, false
	}
	// By Kind: the greatest D, A, B and K.
	most := [][4]int{1: {15, 0, 0, top}, 2: {15, 15, 15, 0}, 3: {15, 15, 15, 0}, 4: {15, 15, 15, 0}, 5: {15, 15, 15, 0}, 6: {15, 15, 0, 4095}, 7: {15, 15, 0, 0}}
	var puts []api.Put
	for b := []byte(plan); len(b) > 0; b = b[8:] {
		p := api.Put{Kind: int(b[0]), D: int(b[1]), A: int(b[2]), B: int(b[3]), K: int(binary.BigEndian.Uint32(b[4:]))}
		if p.Kind < 1 || p.Kind > 7 {
			return nil, false
		}
		for i, v := range []int{p.D, p.A, p.B, p.K} {
			if v > most[p.Kind][i] {
				return nil, false
			}
		}
		puts = append(puts, p)
	}
	return puts, true
}

// modelWordPut gives the put that is the same as a plain word.
func modelWordPut(word int) api.Put {
	op, a, b, c, k := word/(1<<24), word/(1<<20)%16, word/(1<<16)%16, word/(1<<12)%16, word%(1<<12)
	switch op {
	case 1:
		return api.Put{Kind: 1, D: a, K: k}
	case 6:
		return api.Put{Kind: 6, D: a, A: b, K: k}
	}
	return api.Put{Kind: op, D: a, A: b, B: c}
}

func modelWordPuts(words []int) []api.Put {
	var puts []api.Put
	for _, w := range words {
		if modelPlain(w) {
			puts = append(puts, modelWordPut(w))
		}
	}
	return puts
}

func modelReckon(op int, x, y int) int {
	a, b := big.NewInt(int64(x)), big.NewInt(int64(y))
	switch op {
	case 2:
		a.Add(a, b)
	case 3:
		a.Sub(a, b)
	case 4:
		a.Xor(a, b)
	case 5:
		a.Mul(a, b)
	}
	return int(a.Mod(a, big.NewInt(1<<32)).Int64())
}

func modelDo(puts []api.Put, regs [api.Regs]int, mem [api.Size]int) [api.Regs]int {
	slots := map[int]int{}
	for i, r := range regs {
		slots[i] = r
	}
	for _, p := range puts {
		switch p.Kind {
		case 1:
			slots[p.D] = p.K
		case 6:
			slots[p.D] = mem[modelReckon(2, slots[p.A], p.K)&127]
		case 7:
			slots[p.D] = slots[p.A]
		default:
			slots[p.D] = modelReckon(p.Kind, slots[p.A], slots[p.B])
		}
	}
	for i := range regs {
		regs[i] = slots[i]
	}
	return regs
}

// modelComeTo gives for each register the expression that it comes to, as a text: =5 is a constant, q3 a register as it was.
func modelComeTo(puts []api.Put) string {
	slots := strings.Fields("q0 q1 q2 q3 q4 q5 q6 q7 =0 =0 =0 =0 =0 =0 =0 =0")
	constant := func(x string) (int, bool) {
		v, err := strconv.Atoi(strings.TrimPrefix(x, "="))
		return v, err == nil && x[0] == '='
	}
	for _, p := range puts {
		x, y := slots[p.A], slots[p.B]
		v, okX := constant(x)
		w, okY := constant(y)
		switch {
		case p.Kind == 1:
			x = "=" + strconv.Itoa(p.K)
		case p.Kind == 6 && okX:
			x = "[=" + strconv.Itoa((v+p.K)%128) + ",0]"
		case p.Kind == 6:
			x = "[" + x + "," + strconv.Itoa(p.K) + "]"
		case p.Kind == 7:
		case okX && okY:
			x = "=" + strconv.Itoa(modelReckon(p.Kind, v, w))
		default:
			x = "(" + x + strconv.Itoa(p.Kind) + y + ")"
		}
		slots[p.D] = x
	}
	return strings.Join(slots[:8], " ")
}

func modelAccept(words, plan string) api.Errno {
	w := modelWords(words)
	puts, ok := modelPuts(plan)
	switch {
	case w == nil:
		return api.ErrBlock
	case !ok:
		return api.ErrPlan
	case modelComeTo(modelWordPuts(w)) != modelComeTo(puts):
		return api.ErrOther
	}
	return api.OK
}

func modelTranslate(words string) (string, api.Errno) {
	w := modelWords(words)
	if w == nil {
		return "", api.ErrBlock
	}
	puts := modelWordPuts(w)
	for i, p := range puts {
		x, okX := lastSet(puts[:i], p.A)
		y, okY := lastSet(puts[:i], p.B)
		if p.Kind >= 2 && p.Kind <= 5 && okX && okY {
			puts[i] = api.Put{Kind: 1, D: p.D, K: modelReckon(p.Kind, x, y)}
		}
	}
	var list []api.Put
	for i, p := range puts {
		if modelStays(puts[i:]) {
			list = append(list, p)
		}
	}
	return planText(list...), api.OK
}

// lastSet gives the number of the last put on a slot, if it is a Set.
func lastSet(puts []api.Put, slot int) (int, bool) {
	for i := len(puts) - 1; i >= 0; i-- {
		if puts[i].D == slot {
			return puts[i].K, puts[i].Kind == 1
		}
	}
	return 0, false
}

// modelStays tells whether the first of puts stays: the next one that stays and has to do with its slot reads it, or there is none such.
func modelStays(puts []api.Put) bool {
	slot := puts[0].D
	for i := 1; i < len(puts); i++ {
		p := puts[i]
		reads := p.Kind != 1 && p.A == slot || p.Kind >= 2 && p.Kind <= 5 && p.B == slot
		if (reads || p.D == slot) && modelStays(puts[i:]) {
			return reads
		}
	}
	return true
}
