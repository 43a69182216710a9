package crib_test

import (
	"testing"

	"crib/api"
	"crib/crib"
)

func checkState(t *testing.T, e *crib.Engine, want api.State) {
	t.Helper()
	if got := e.State(); got != want {
		t.Errorf("P14: State() = registers %x, Pc %d, Stop %d, memory %x; want %x, %d, %d, %x", got.Regs, got.Pc, got.Stop, got.Mem, want.Regs, want.Pc, want.Stop, want.Mem)
	}
}

// stepped gives the state that n steps make.
func stepped(t *testing.T, s api.State, n int) api.State {
	t.Helper()
	for range n {
		next, err := crib.Step(s)
		if err != api.OK {
			t.Fatalf("P3: Step = %d", err)
		}
		s = next
	}
	return s
}

func TestRunOfTheLoop(t *testing.T) {
	d := crib.NewDevice()
	e := start(t, d, loopMachine)
	checkTurns(t, d, 0, func() { checkRun(t, e, 11, 11) })
	checkCounts(t, e, 2, 0, 0, 2, 2)
	checkState(t, e, stepped(t, loopMachine, 11))
	checkKnown(t, e)
	checkRun(t, e, 4, 4) // from the second word on: another block, and the jump
	checkCounts(t, e, 3, 0, 0, 3, 3)
	checkState(t, e, stepped(t, loopMachine, 15))
	checkRun(t, e, 2000, 2000)
	checkCounts(t, e, 803, 0, 0, 3, 3)
	checkState(t, e, stepped(t, loopMachine, 2015))
}

func TestRunWithLittleFuel(t *testing.T) {
	e := start(t, crib.NewDevice(), loopMachine)
	checkRun(t, e, 0, 0)
	checkState(t, e, loopMachine)
	checkRun(t, e, 3, 3)
	checkCounts(t, e, 0, 0, 0, 0, 0)
	checkRun(t, e, 1, 1)
	checkCounts(t, e, 0, 0, 0, 1, 1)
	checkRun(t, e, 1, 1)
	checkRun(t, e, 4, 4) // just enough
	checkCounts(t, e, 0, 0, 0, 3, 3)
	checkState(t, e, stepped(t, loopMachine, 9))
}

func TestRunWithWrongFuel(t *testing.T) {
	e := start(t, crib.NewDevice(), loopMachine)
	for _, fuel := range []int{-1 << 63, -1, 2001, 1 << 32, 1<<63 - 1} {
		checkNoRun(t, e, fuel, api.ErrArg)
	}
	checkState(t, e, loopMachine)
	checkRun(t, e, 2000, 2000)
}

func TestRunTillTheMachineStops(t *testing.T) {
	for _, c := range []struct {
		s                 api.State
		steps, translated int
	}{
		{smallMachine, 2, 1},
		{machineOf(), 1, 1},
		{machineOf(0x01800000), 1, 1},
		{machineOf(0x01100007, 0x01200008, 0xff000000), 3, 1},
		{machineOf(0x01100007, 0x09000005, 0, 0, 0, 0x02211000, 0x02080000), 4, 2},
		{machineOf(0x01000001, 0x01100001, 0x01200001, 0x01300001, 0x01400001, 0x01500001, 0x01600001, 0x01700001, 0), 9, 2},
	} {
		for _, fuel := range []int{c.steps, c.steps + 1, 2000} {
			e := start(t, crib.NewDevice(), c.s)
			checkRun(t, e, fuel, c.steps)
			checkCounts(t, e, 0, 0, 0, c.translated, c.translated)
			checkState(t, e, stepped(t, c.s, c.steps))
			if e.State().Stop == api.Running {
				t.Errorf("P14: it runs still")
			}
			checkRun(t, e, 5, 0)
			checkCounts(t, e, 0, 0, 0, c.translated, c.translated)
		}
	}
}

// Behind the last place the first one comes, in another block.
func TestRunBeyondTheLastPlace(t *testing.T) {
	s := machineOf(0x02111000, 0x0900007e)
	s.Mem[126], s.Mem[127], s.Pc = 0x01100003, 0x02112000, 126
	e := start(t, crib.NewDevice(), s)
	checkRun(t, e, 2, 2)
	checkCounts(t, e, 0, 0, 0, 1, 1)
	checkState(t, e, stepped(t, s, 2))
	checkRun(t, e, 2, 2)
	checkRun(t, e, 4, 4)
	checkCounts(t, e, 2, 0, 0, 2, 2)
	checkState(t, e, stepped(t, s, 8))
	s.Mem[127] = 0x08000009 // goes to the place 9
	s.Pc = 127
	e = start(t, crib.NewDevice(), s)
	checkRun(t, e, 9, 2)
	checkState(t, e, stepped(t, s, 2))
}

// A block is told by its words, wherever it stands.
func TestRunOfTheSameWordsElsewhere(t *testing.T) {
	s := machineOf(0x02111000, 0x0a200000)
	s.Mem[64], s.Mem[65], s.Regs = 0x02111000, 0x0a200000, [api.Regs]int{1: 3, 2: 64}
	e := start(t, crib.NewDevice(), s)
	checkRun(t, e, 4, 4)
	checkCounts(t, e, 1, 0, 0, 1, 1)
	checkState(t, e, stepped(t, s, 4))
}

func TestRunOfAProgramThatTurnsItself(t *testing.T) {
	// The block at 0 adds r3 to its own first word, each time round.
	s := machineOf(0x01100001, 0x06200000, 0x02223000, 0x07200000, 0x09000000)
	s.Regs[3] = 1
	e := start(t, crib.NewDevice(), s)
	for n := 1; n <= 40; n++ {
		checkRun(t, e, 5, 5)
		checkCounts(t, e, n-1, 0, 0, n+1, n+1)
		checkState(t, e, stepped(t, s, 5*n))
	}
	// The store changes what stands behind it.
	s = machineOf(0x01100003, 0x06210005, 0x07210001, 0x01100001, 0x09000000, 0, 0, 0, 0x01400009)
	e = start(t, crib.NewDevice(), s)
	checkRun(t, e, 9, 6)
	checkState(t, e, stepped(t, s, 6))
}

func TestRunByWhatIsKnown(t *testing.T) {
	for _, c := range []struct {
		plan   string
		served int
	}{
		{bytes(loopPlan), 1},
		{bytes("010f000000000006 07010f0000000000 010200000000000a"), 1},
		{bytes("010f000000000006 07010f0000000000 010200000000000b"), 0},
		{"", 0},
		{"x", 0},
		{bytes(loopPlan) + "x", 0},
		{bytes("0801000000000006 010200000000000a"), 0},
		{bytes(loopPlan + "0103000000000000"), 0},
	} {
		known := api.Known{Words: bytes(loopHead), Plan: c.plan}
		e := start(t, deviceOf(t, openFrame(1)+wholeFrame+entryFrame(known.Words, known.Plan, 0), ""), loopMachine)
		checkRun(t, e, 4, 4)
		refused := 1 - c.served
		checkCounts(t, e, 0, c.served, refused, refused, refused)
		checkKnown(t, e, known)
		checkRun(t, e, 6, 6)
		checkCounts(t, e, 2, c.served, refused, refused+1, refused+1)
		checkState(t, e, stepped(t, loopMachine, 10))
		checkErrno(t, "P16: Persist", e.Persist(), api.OK)
		if c.served == 0 {
			known = loopKnown
		}
		checkKnown(t, e, known, jumpKnown)
		checkRun(t, e, 5, 5) // what is ready stays so
		checkCounts(t, e, 4, c.served, refused, refused+1, 0)
	}
}

func TestRunByPlansOfOtherBlocks(t *testing.T) {
	// None of these is the block of the small machine, though each begins or ends as it does.
	area := openFrame(1) + wholeFrame
	for _, words := range []string{text(0x01100007), text(0), text(0x01100007, 1), text(0x01100007, 0x01100007), text(0x011f0007, 0)} {
		area += entryFrame(words, falseKnown.Plan, 0)
	}
	e := start(t, deviceOf(t, area, ""), smallMachine)
	checkRun(t, e, 9, 2)
	checkCounts(t, e, 0, 0, 0, 1, 1)
	checkState(t, e, stepped(t, smallMachine, 2))
}
