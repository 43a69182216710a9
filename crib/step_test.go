package crib_test

import (
	"math/big"
	"math/rand"
	"slices"
	"testing"

	"crib/api"
	"crib/crib"
)

const top = 1<<32 - 1

// machineAt gives a machine with something to tell apart in each register, at a place where that word stands.
func machineAt(pc, word int) api.State {
	s := api.State{Pc: pc, Regs: [api.Regs]int{0, 1, 130, top, 0x80000000, 0x10001, 130, 77}}
	for i := range s.Mem {
		s.Mem[i] = top - i
	}
	s.Mem[pc] = word
	return s
}

func checkStep(t *testing.T, s, want api.State) {
	t.Helper()
	got, e := crib.Step(s)
	if e != api.OK || got != want {
		t.Errorf("P3: Step at the word %08x = registers %x, Pc %d, Stop %d, error %d; want %x, %d, %d", s.Mem[s.Pc], got.Regs, got.Pc, got.Stop, e, want.Regs, want.Pc, want.Stop)
	}
}

func TestStepSetsRegisters(t *testing.T) {
	for _, c := range []struct{ word, register, value int }{
		{0x01000000, 0, 0},
		{0x01700fff, 7, 4095},
		{0x012ff123, 2, 0x123}, // B and C are not used
		{0x02112000, 1, 131},
		{0x02033000, 0, top - 1}, // 2^33 - 2
		{0x02044000, 0, 0},       // 2^32
		{0x02012fff, 0, 131},     // K is not used
		{0x03321000, 3, 129},
		{0x03012000, 0, 1<<32 - 129}, // below 0
		{0x03000000, 0, 0},
		{0x04037000, 0, top - 77},
		{0x04733000, 7, 0},
		{0x05033000, 0, 1},          // (2^32 - 1) squared
		{0x05055000, 0, 0x00020001}, // 2^32 + 2^17 + 1
		{0x05044000, 0, 0},
		{0x06120005, 1, top - 7},   // 130 + 5
		{0x0600f000, 0, top},       // C is not used
		{0x06030000, 0, top - 127}, // 2^32 - 1
		{0x06030001, 0, top},       // 2^32
		{0x06000fff, 0, top - 127},
		{0x06770fff, 7, top - 76}, // 77 + 4095
	} {
		s := machineAt(50, c.word)
		want := s
		want.Regs[c.register], want.Pc = c.value, 51
		checkStep(t, s, want)
	}
}

func TestStepStores(t *testing.T) {
	for _, c := range []struct{ word, at, value int }{
		{0x07300000, 0, top},
		{0x07120005, 7, 1},
		{0x0733f001, 0, top},
		{0x07030fff, 126, 0},
		{0x07000032, 50, 0}, // the instruction itself
	} {
		s := machineAt(50, c.word)
		want := s
		want.Mem[c.at], want.Pc = c.value, 51
		checkStep(t, s, want)
	}
}

func TestStepGoes(t *testing.T) {
	for _, c := range []struct{ word, pc int }{
		{0x08260009, 9},
		{0x08120009, 51},
		{0x0811f080, 0},
		{0x08330fff, 127},
		{0x09000003, 3},
		{0x09fff080, 0},
		{0x09000fff, 127},
		{0x09000032, 50}, // on the spot
		{0x0a200000, 2},
		{0x0a3fffff, 127},
		{0x0a400000, 0},
	} {
		s := machineAt(50, c.word)
		want := s
		want.Pc = c.pc
		checkStep(t, s, want)
	}
}

func TestStepBehindTheLastPlace(t *testing.T) {
	s := machineAt(127, 0x01100005)
	want := s
	want.Regs[1], want.Pc = 5, 0
	checkStep(t, s, want)
	s = machineAt(127, 0x08120009)
	want = s
	want.Pc = 0
	checkStep(t, s, want)
}

func TestStepStops(t *testing.T) {
	check := func(word, stop int) {
		t.Helper()
		s := machineAt(127, word)
		want := s
		want.Stop = stop
		checkStep(t, s, want)
	}
	check(0, api.Halted)
	check(0x00ffffff, api.Halted)
	for op := 11; op < 256; op++ {
		check(op<<24, api.Trapped)
	}
	for _, word := range []int{
		0x01800000, 0x01f00005, 0x02800000, 0x02080000, 0x02008000, 0x0300f000, 0x04080000, 0x05800000,
		0x06800000, 0x06080000, 0x07800000, 0x07080000, 0x08800000, 0x08080000, 0x0a800000,
	} {
		check(word, api.Trapped)
	}
}

func TestStepOfNoState(t *testing.T) {
	for i, spoil := range []func(s *api.State){
		func(s *api.State) { s.Regs[0] = -1 },
		func(s *api.State) { s.Regs[7] = 1 << 32 },
		func(s *api.State) { s.Mem[0] = 1<<63 - 1 },
		func(s *api.State) { s.Mem[127] = -1 << 63 },
		func(s *api.State) { s.Pc = -1 },
		func(s *api.State) { s.Pc = 128 },
		func(s *api.State) { s.Pc = -1 << 63 },
		func(s *api.State) { s.Stop = -1 },
		func(s *api.State) { s.Stop = 3 },
		func(s *api.State) { s.Stop, s.Regs[3] = api.Halted, -1 }, // ErrState is told first
	} {
		s := machineAt(5, 0x01100005)
		spoil(&s)
		if got, e := crib.Step(s); e != api.ErrState || got != (api.State{}) {
			t.Errorf("P3: Step of no state (%d) = %v, %d, want nothing, ErrState", i, got, e)
		}
	}
}

func TestStepOfWhatHasStopped(t *testing.T) {
	for _, stop := range []int{api.Halted, api.Trapped} {
		s := machineAt(5, 0x01100005)
		s.Stop = stop
		if got, e := crib.Step(s); e != api.ErrStop || got != (api.State{}) {
			t.Errorf("P3: Step with Stop %d = %v, %d, want nothing, ErrStop", stop, got, e)
		}
	}
}

// modelStep is Step told a second time, with numbers that have no bound.
func modelStep(s api.State) api.State {
	word := s.Mem[s.Pc]
	op, a, b, c, k := word/(1<<24), word/(1<<20)%16, word/(1<<16)%16, word/(1<<12)%16, word%(1<<12)
	used := []int{0, 1, 3, 3, 3, 3, 2, 2, 2, 0, 1}
	if op > 10 || slices.Max(append([]int{a, b, c}[:used[op]], 0)) > 7 {
		s.Stop = api.Trapped
		return s
	}
	mod := func(z *big.Int, m int64) int { return int(new(big.Int).Mod(z, big.NewInt(m)).Int64()) }
	num := func(r int) *big.Int { return big.NewInt(int64(s.Regs[r])) }
	here := func() int { return mod(new(big.Int).Add(num(b), big.NewInt(int64(k))), 128) }
	pc := (s.Pc + 1) % 128
	switch op {
	case 0:
		s.Stop, pc = api.Halted, s.Pc
	case 1:
		s.Regs[a] = k
	case 2:
		s.Regs[a] = mod(new(big.Int).Add(num(b), num(c)), 1<<32)
	case 3:
		s.Regs[a] = mod(new(big.Int).Sub(num(b), num(c)), 1<<32)
	case 4:
		s.Regs[a] = mod(new(big.Int).Xor(num(b), num(c)), 1<<32)
	case 5:
		s.Regs[a] = mod(new(big.Int).Mul(num(b), num(c)), 1<<32)
	case 6:
		s.Regs[a] = s.Mem[here()]
	case 7:
		s.Mem[here()] = s.Regs[a]
	case 8:
		if s.Regs[a] == s.Regs[b] {
			pc = k % 128
		}
	case 9:
		pc = k % 128
	case 10:
		pc = s.Regs[a] % 128
	}
	s.Pc = pc
	return s
}

func TestStepAsTheModel(t *testing.T) {
	random := rand.New(rand.NewSource(1))
	for range 300 {
		s := api.State{Pc: random.Intn(api.Size)}
		for i := range s.Regs {
			s.Regs[i] = int(random.Uint32()) >> random.Intn(32)
		}
		for i := range s.Mem {
			fields := random.Intn(1 << 24)
			if random.Intn(20) > 0 {
				fields &= 0x777fff
			}
			s.Mem[i] = (1+random.Intn(10))<<24 | fields
		}
		for steps := 0; s.Stop == api.Running && steps < 100; steps++ {
			want := modelStep(s)
			checkStep(t, s, want)
			s = want
		}
	}
}

func TestStepOfAnything(t *testing.T) {
	random := rand.New(rand.NewSource(2))
	wild := []int{-1 << 63, -1 << 32, -128, -1, 3, 128, 1 << 32, 1<<32 + 5, 1<<63 - 1}
	for range 20000 {
		s := machineAt(random.Intn(api.Size), int(random.Uint32()))
		fits := true
		for _, p := range []*int{&s.Regs[random.Intn(api.Regs)], &s.Mem[random.Intn(api.Size)], &s.Pc, &s.Stop} {
			if random.Intn(4) == 0 {
				*p = wild[random.Intn(len(wild))]
				most := map[*int]int{&s.Pc: 127, &s.Stop: 2}[p]
				if most == 0 {
					most = top
				}
				fits = fits && *p >= 0 && *p <= most
			}
		}
		got, e := crib.Step(s)
		if fits != (e == api.OK) || e != api.OK && got != (api.State{}) {
			t.Fatalf("P1, P3: Step of %v = %v, %d", s, got, e)
		}
		if _, again := crib.Step(got); e == api.OK && again != api.OK && again != api.ErrStop {
			t.Fatalf("P3: Step of %v made no state of it: %v", s, got)
		}
	}
}
