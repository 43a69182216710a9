package crib_test

import (
	"math/rand"
	"slices"
	"strings"
	"testing"

	"crib/api"
	"crib/crib"
)

func TestPutsOfPlans(t *testing.T) {
	for _, c := range []struct {
		plan string
		want []api.Put
	}{
		{"", nil},
		{loopPlan, []api.Put{{Kind: api.Set, D: 2, K: 10}, {Kind: api.Set, D: 1, K: 6}}},
		{"010f0000ffffffff", []api.Put{{Kind: api.Set, D: 15, K: top}}},
		{"0100000012345678", []api.Put{{Kind: api.Set, K: 0x12345678}}},
		{"020f0e0d00000000 0301020300000000", []api.Put{{Kind: api.Add, D: 15, A: 14, B: 13}, {Kind: api.Sub, D: 1, A: 2, B: 3}}},
		{"04000f0f00000000 050f000000000000", []api.Put{{Kind: api.Xor, A: 15, B: 15}, {Kind: api.Mul, D: 15}}},
		{"060f0e0000000fff", []api.Put{{Kind: api.Load, D: 15, A: 14, K: 4095}}},
		{"070f0e0000000000", []api.Put{{Kind: api.Move, D: 15, A: 14}}},
		{strings.Repeat("0700000000000000", 10), slices.Repeat([]api.Put{{Kind: api.Move}}, 10)},
	} {
		if got, e := crib.Puts(bytes(c.plan)); e != api.OK || !slices.Equal(got, c.want) {
			t.Errorf("P6: Puts(%s) = %v, %d, want %v, OK", c.plan, got, e, c.want)
		}
	}
}

var noPlans = []string{
	"00", "01000000000000", "010000000000000000", strings.Repeat("0100000000000000", 11), strings.Repeat("0100000000000000", 10) + "01",
	"0000000000000000", "0800000000000000", "ff00000000000000",
	"0110000000000000", "0210000000000000", "0610000000000000", "0710000000000000", "07ff000000000000",
	"0100010000000000", "0100000100000000",
	"0200100000000000", "0300001000000000", "0400ff0000000000", "050000ff00000000",
	"0200000000000001", "0300000001000000", "0400000000000001", "0500000000010000",
	"0600100000000000", "0600000100000000", "0600000000001000", "0600000001000000",
	"0700100000000000", "0700000100000000", "0700000000000001", "0700000080000000",
	"0101000000000006 0801000000000006", "0001000000000006 0101000000000006",
}

func TestPutsOfNoPlan(t *testing.T) {
	for _, plan := range noPlans {
		if got, e := crib.Puts(bytes(plan)); got != nil || e != api.ErrPlan {
			t.Errorf("P6: Puts(%s) = %v, %d, want nothing, ErrPlan", plan, got, e)
		}
		if got, e := crib.Do(bytes(plan), [api.Regs]int{1, 2}, [api.Size]int{}); got != ([api.Regs]int{}) || e != api.ErrPlan {
			t.Errorf("P6: Do(%s) = %v, %d, want nothing, ErrPlan", plan, got, e)
		}
		if e := crib.Accept(bytes(loopHead), bytes(plan)); e != api.ErrPlan {
			t.Errorf("P7: Accept(.., %s) = %d, want ErrPlan", plan, e)
		}
	}
}

func TestPutsAreNewMemory(t *testing.T) {
	plan := bytes(strings.Repeat("0101000000000006", 5))
	a, _ := crib.Puts(plan)
	want := slices.Clone(a)
	b, _ := crib.Puts(plan)
	for i := range b[:cap(b)] {
		b[:cap(b)][i] = api.Put{Kind: 9}
	}
	c, _ := crib.Puts(plan)
	if !slices.Equal(a, want) || !slices.Equal(c, want) {
		t.Errorf("P2: Puts hang on what was written into others: %v, %v", a, c)
	}
}

func TestDoPuts(t *testing.T) {
	regs := [api.Regs]int{1, 2, 130, top, 0x80000000, 0x10001, 127, 77}
	var mem [api.Size]int
	for i := range mem {
		mem[i] = top - i
	}
	for _, c := range []struct {
		plan            string
		register, value int
	}{
		{"", 0, 1},
		{"0100000000000000", 0, 0},
		{"01070000ffffffff", 7, top},
		{"0200030300000000", 0, top - 1},
		{"0200040400000000", 0, 0},
		{"0300000100000000", 0, top},
		{"0307020100000000", 7, 128},
		{"0407030100000000", 7, top - 2},
		{"0500030300000000", 0, 1},
		{"0500050500000000", 0, 0x00020001},
		{"0600020000000005", 0, top - 7},   // 130 + 5
		{"0600030000000001", 0, top},       // 2^32
		{"0600030000000fff", 0, top - 126}, // 2^32 + 4094
		{"0600060000000001", 0, top},       // behind the last place
		{"0607080000000fff", 7, top - 127}, // slot 8 is 0
		{"0701070000000000", 1, 77},
		{"07000f0000000000", 0, 0},
		{"010f000000000007 0701000000000000", 1, 1}, // slots beyond the registers go nowhere
		{"0101000000000003 0200010100000000 0101000000000002", 0, 6},
		{"0708000000000000 0700010000000000 0701080000000000 0200000000000000", 0, 4},
	} {
		got, e := crib.Do(bytes(c.plan), regs, mem)
		if e != api.OK || got[c.register] != c.value {
			t.Errorf("P6: Do(%s) = %v, %d, want %d in register %d", c.plan, got, e, c.value, c.register)
		}
	}
	if got, e := crib.Do(bytes("010f000000000007 0708000000000000"), regs, mem); e != api.OK || got != regs {
		t.Errorf("P6: Do of puts on other slots = %v, %d, want the registers as they were", got, e)
	}
}

func TestDoOfNoState(t *testing.T) {
	for _, v := range []int{-1, 1 << 32, -1 << 63, 1<<63 - 1} {
		for _, plan := range []string{"", "x", bytes(loopPlan)} { // ErrState is told first
			if got, e := crib.Do(plan, [api.Regs]int{7: v}, [api.Size]int{}); got != ([api.Regs]int{}) || e != api.ErrState {
				t.Errorf("P6: Do(%x) with the register %d = %v, %d, want ErrState", plan, v, got, e)
			}
			if got, e := crib.Do(plan, [api.Regs]int{1, 2}, [api.Size]int{127: v}); got != ([api.Regs]int{}) || e != api.ErrState {
				t.Errorf("P6: Do(%x) with the word %d = %v, %d, want ErrState", plan, v, got, e)
			}
		}
	}
}

// randomPut gives a put over few slots and numbers, so that they meet; some are none.
func randomPut(random *rand.Rand) api.Put {
	slot := func() int { return []int{0, 1, 2, 3, 8, 15}[random.Intn(6)] }
	p := api.Put{Kind: 1 + random.Intn(7), D: slot(), A: slot(), B: slot(), K: random.Intn(256) & 0x83}
	if random.Intn(40) == 0 {
		return p
	}
	if p.Kind == api.Set {
		p.A = 0
	}
	if p.Kind == api.Set || p.Kind >= api.Load {
		p.B = 0
	}
	if p.Kind != api.Set && p.Kind != api.Load {
		p.K = 0
	}
	return p
}

func randomPlan(random *rand.Rand) string {
	var puts []api.Put
	for range random.Intn(11) {
		puts = append(puts, randomPut(random))
	}
	return planText(puts...)
}

func randomState(random *rand.Rand) api.State {
	var s api.State
	for i := range s.Regs {
		s.Regs[i] = int(random.Uint32()) >> random.Intn(32)
	}
	for i := range s.Mem {
		s.Mem[i] = int(random.Uint32()) >> random.Intn(32)
	}
	return s
}

func TestPutsAndDoAsTheModel(t *testing.T) {
	random := rand.New(rand.NewSource(4))
	for range 5000 {
		plan := randomPlan(random)
		s := randomState(random)
		want, ok := modelPuts(plan)
		got, e := crib.Puts(plan)
		if ok != (e == api.OK) || !slices.Equal(got, want) && ok || !ok && (got != nil || e != api.ErrPlan) {
			t.Fatalf("P6: Puts(%x) = %v, %d, want %v", plan, got, e, want)
		}
		regs, e := crib.Do(plan, s.Regs, s.Mem)
		if ok && (e != api.OK || regs != modelDo(want, s.Regs, s.Mem)) || !ok && (e != api.ErrPlan || regs != ([api.Regs]int{})) {
			t.Fatalf("P6: Do(%x, %v, ..) = %v, %d", plan, s.Regs, regs, e)
		}
	}
}
