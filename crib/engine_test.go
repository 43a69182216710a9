package crib_test

import (
	"slices"
	"testing"

	"crib/api"
	"crib/crib"
)

// machineOf gives a machine whose memory begins with these words.
func machineOf(words ...int) api.State {
	var s api.State
	copy(s.Mem[:], words)
	return s
}

var (
	loopMachine  = machineOf(0x01100005, 0x02211000, 0x01100006, 0x07210000, 0x09000000)
	smallMachine = machineOf(0x01100007, 0)
	smallKnown   = api.Known{Words: text(0x01100007, 0), Plan: bytes("0101000000000007")}
	falseKnown   = api.Known{Words: smallKnown.Words, Plan: bytes("0101000000000008")}
	smallEntry   = entryFrame(smallKnown.Words, smallKnown.Plan, 0)
	falseEntry   = entryFrame(falseKnown.Words, falseKnown.Plan, 0)
)

// deviceOf gives a device with bytes that last.
func deviceOf(t *testing.T, first, second string) *crib.Device {
	t.Helper()
	d := crib.NewDevice()
	for i, s := range []string{first, second} {
		checkErrno(t, "P11: Add", d.Add(i, s), api.OK)
		checkErrno(t, "P11: Sync", d.Sync(i), api.OK)
	}
	return d
}

func start(t *testing.T, d *crib.Device, s api.State) *crib.Engine {
	t.Helper()
	e, err := crib.Start(d, s)
	if err != api.OK || e == nil {
		t.Fatalf("P13: Start = %v, %d, want an engine, OK", e, err)
	}
	return e
}

func checkNoStart(t *testing.T, d *crib.Device, s api.State, want api.Errno) {
	t.Helper()
	if e, err := crib.Start(d, s); e != nil || err != want {
		t.Errorf("P13: Start = %v, %d, want nothing, %d", e, err, want)
	}
}

func checkRun(t *testing.T, e *crib.Engine, fuel, want int) {
	t.Helper()
	if n, err := e.Run(fuel); n != want || err != api.OK {
		t.Errorf("P14: Run(%d) = %d, %d, want %d, OK", fuel, n, err, want)
	}
}

func checkNoRun(t *testing.T, e *crib.Engine, fuel int, want api.Errno) {
	t.Helper()
	if n, err := e.Run(fuel); n != 0 || err != want {
		t.Errorf("P14: Run(%d) = %d, %d, want 0, %d", fuel, n, err, want)
	}
}

func checkCounts(t *testing.T, e *crib.Engine, used, served, refused, translated, waiting int) {
	t.Helper()
	want := api.Counts{Used: used, Served: served, Refused: refused, Translated: translated, Waiting: waiting}
	if got := e.Counts(); got != want {
		t.Errorf("P15: Counts() = %+v, want %+v", got, want)
	}
}

func checkKnown(t *testing.T, e *crib.Engine, want ...api.Known) {
	t.Helper()
	if got := e.Known(); !slices.Equal(got, want) {
		t.Errorf("P15: Known() = %x, want %x", got, want)
	}
}

func checkOver(t *testing.T, e *crib.Engine) {
	t.Helper()
	s, c, known := e.State(), e.Counts(), e.Known()
	for _, fuel := range []int{1, 0, -1, 2001} { // ErrOver is told ahead of ErrArg
		checkNoRun(t, e, fuel, api.ErrOver)
	}
	checkErrno(t, "P16: Persist of what is over", e.Persist(), api.ErrOver)
	checkErrno(t, "P17: Compact of what is over", e.Compact(), api.ErrOver)
	if e.State() != s || e.Counts() != c || !slices.Equal(e.Known(), known) {
		t.Errorf("P15: State(), Counts() or Known() of an engine that is over has changed")
	}
}

// checkTurns holds against n how many turns a call makes: the one behind them is to fail.
func checkTurns(t *testing.T, d *crib.Device, n int, call func()) {
	t.Helper()
	checkErrno(t, "P12: Trouble", d.Trouble(n+1), api.OK)
	call()
	if _, e := d.Read(0); e != api.ErrDevice {
		t.Errorf("P12: the call made not %d turns", n)
	}
	checkErrno(t, "P12: Trouble", d.Trouble(0), api.OK)
}

func TestStartOverANewDevice(t *testing.T) {
	d := crib.NewDevice()
	var e *crib.Engine
	checkTurns(t, d, 7, func() { e = start(t, d, loopMachine) })
	checkHolds(t, d, openFrame(1)+wholeFrame, "")
	checkKnown(t, e)
	checkCounts(t, e, 0, 0, 0, 0, 0)
	if e.State() != loopMachine {
		t.Errorf("P15: State() behind Start = %v", e.State())
	}
	d.Crash(0, "")
	checkHolds(t, d, openFrame(1)+wholeFrame, "")
}

func TestStartFindsTheCurrentArea(t *testing.T) {
	jumpArea := func(generation int) string { return openFrame(generation) + jumpEntry + wholeFrame }
	loopArea := func(generation int) string { return openFrame(generation) + wholeFrame + loopEntry }
	none := openFrame(1) + wholeFrame
	for _, c := range []struct {
		first, second       string
		known               []api.Known
		newFirst, newSecond string // empty, if the area stays as it is
		turns               int
	}{
		{first: loopArea(1), known: []api.Known{loopKnown}, turns: 4},
		{second: loopArea(1), known: []api.Known{loopKnown}, turns: 4},
		{first: loopArea(1), second: jumpArea(2), known: []api.Known{jumpKnown}, turns: 4},
		{first: jumpArea(2), second: loopArea(1), known: []api.Known{jumpKnown}, turns: 4},
		{first: jumpArea(7), second: loopArea(7), known: []api.Known{jumpKnown}, turns: 4},
		{first: jumpArea(0x00ffffff), second: loopArea(0x01000000), known: []api.Known{loopKnown}, turns: 4},
		{first: jumpArea(top), second: loopArea(1), known: []api.Known{jumpKnown}, turns: 4},
		{first: jumpArea(1), second: loopArea(top), known: []api.Known{loopKnown}, turns: 4},
		{first: loopArea(1), second: openFrame(2) + jumpEntry, known: []api.Known{loopKnown}, turns: 4},
		{first: loopArea(1), second: "x" + jumpArea(2), known: []api.Known{loopKnown}, turns: 4},
		{first: openFrame(top), second: loopArea(1), known: []api.Known{loopKnown}, turns: 4},

		// none is whole
		{first: openFrame(5) + loopEntry, newFirst: none, turns: 7},
		{second: openFrame(5) + loopEntry, newFirst: none, turns: 7},
		{first: "x", second: "y", newFirst: none, turns: 7},
		{first: openFrame(0) + wholeFrame, newFirst: none, turns: 7},
		{first: wholeFrame, second: loopEntry, newFirst: none, turns: 7},
		{first: openFrame(top) + "x" + wholeFrame, newFirst: none, turns: 7},

		// bytes behind the good ones
		{first: loopArea(1) + "x", known: []api.Known{loopKnown}, newSecond: openFrame(2) + loopEntry + wholeFrame, turns: 7},
		{second: loopArea(1) + "x", known: []api.Known{loopKnown}, newFirst: openFrame(2) + loopEntry + wholeFrame, turns: 7},
		{first: jumpArea(8), second: loopArea(9) + wholeFrame, known: []api.Known{loopKnown}, newFirst: openFrame(10) + loopEntry + wholeFrame, turns: 7},
		{first: jumpArea(9) + openFrame(9), second: loopArea(8), known: []api.Known{jumpKnown}, newSecond: openFrame(10) + jumpEntry + wholeFrame, turns: 7},
		{first: jumpArea(9), second: loopArea(9) + "x", known: []api.Known{jumpKnown}, turns: 4},
		{first: loopArea(top-1) + "x", known: []api.Known{loopKnown}, newSecond: openFrame(top) + loopEntry + wholeFrame, turns: 7},
		{first: none + loopEntry[:40], newSecond: openFrame(2) + wholeFrame, turns: 7},
	} {
		d := deviceOf(t, c.first, c.second)
		var e *crib.Engine
		checkTurns(t, d, c.turns, func() { e = start(t, d, smallMachine) })
		checkKnown(t, e, c.known...)
		first, second := c.first, c.second
		if c.newFirst != "" {
			first = c.newFirst
		}
		if c.newSecond != "" {
			second = c.newSecond
		}
		checkHolds(t, d, first, second)
		d.Crash(0, "") // what was written anew lasts
		checkHolds(t, d, first, second)
	}
}

func TestStartKnowsEachBlockOnce(t *testing.T) {
	area := openFrame(1) + falseEntry + jumpEntry + wholeFrame + loopEntry + smallEntry + jumpEntry
	want := []api.Known{smallKnown, jumpKnown, loopKnown}
	d := deviceOf(t, area, "")
	checkKnown(t, start(t, d, smallMachine), want...)
	checkHolds(t, d, area, "")
	d = deviceOf(t, "", area+"x")
	checkKnown(t, start(t, d, smallMachine), want...)
	checkHolds(t, d, openFrame(2)+smallEntry+jumpEntry+loopEntry+wholeFrame, area+"x")
	// Blocks of other words are others, though they begin alike or do the same.
	list := []api.Known{{Words: text(0x01100007)}, {Words: text(0x01100007, 0)}, {Words: text(0x01100007, 1)}, {Words: text(0x01110007)}, {Words: text(0)}, {Words: text(1)}}
	area = openFrame(1) + wholeFrame
	for _, k := range list {
		area += entryFrame(k.Words, k.Plan, 0)
	}
	checkKnown(t, start(t, deviceOf(t, area, ""), smallMachine), list...)
}

func TestStartMakesAllLasting(t *testing.T) {
	d := crib.NewDevice()
	checkErrno(t, "P11: Add", d.Add(0, openFrame(1)+wholeFrame+loopEntry), api.OK)
	checkErrno(t, "P11: Add", d.Add(1, "loose"), api.OK)
	checkKnown(t, start(t, d, smallMachine), loopKnown)
	d.Crash(0, "")
	checkHolds(t, d, openFrame(1)+wholeFrame+loopEntry, "loose")
}

// noStates spoil a state, each in another way.
var noStates = []func(s *api.State){
	func(s *api.State) { s.Regs[7] = 1 << 32 },
	func(s *api.State) { s.Regs[0] = -1 },
	func(s *api.State) { s.Mem[127] = -1 },
	func(s *api.State) { s.Mem[0] = 1 << 32 },
	func(s *api.State) { s.Pc = -1 },
	func(s *api.State) { s.Pc = 128 },
	func(s *api.State) { s.Stop = -1 },
	func(s *api.State) { s.Stop = 3 },
}

func TestStartOfWhatMayNotBe(t *testing.T) {
	d := crib.NewDevice()
	e := start(t, d, smallMachine)
	checkNoStart(t, nil, smallMachine, api.ErrArg)
	for _, spoil := range noStates {
		s := smallMachine
		spoil(&s)
		checkNoStart(t, nil, s, api.ErrArg) // told ahead of ErrState
		checkTurns(t, d, 0, func() { checkNoStart(t, d, s, api.ErrState) })
	}
	checkHolds(t, d, openFrame(1)+wholeFrame, "")
	checkRun(t, e, 9, 2) // it is not over
	checkErrno(t, "P16: Persist", e.Persist(), api.OK)
}

func TestStartEndsTheEngineBefore(t *testing.T) {
	for _, c := range []struct {
		trouble int
		area    string
		want    api.Errno
	}{
		{0, openFrame(1) + wholeFrame, api.OK},
		{0, openFrame(1) + wholeFrame + "x", api.OK},
		{0, "", api.OK},
		{0, openFrame(top) + wholeFrame + "x", api.ErrSpent},
		{1, openFrame(1) + wholeFrame, api.ErrDevice},
		{4, openFrame(1) + wholeFrame, api.ErrDevice},
		{5, "", api.ErrDevice},
		{7, "", api.ErrDevice},
	} {
		d, other := crib.NewDevice(), crib.NewDevice()
		e, apart := start(t, d, smallMachine), start(t, other, smallMachine)
		checkRun(t, e, 1, 1)
		checkErrno(t, "P11: Clear", d.Clear(0), api.OK)
		checkErrno(t, "P11: Add", d.Add(0, c.area), api.OK)
		checkErrno(t, "P12: Trouble", d.Trouble(c.trouble), api.OK)
		after, err := crib.Start(d, loopMachine)
		if err != c.want || (after == nil) == (err == api.OK) {
			t.Errorf("P13: Start = %v, %d, want %d", after, err, c.want)
		}
		checkOver(t, e)
		if s := e.State(); s.Pc != 1 || s.Regs[1] != 7 {
			t.Errorf("P15: State() of an engine that is over = %v", s)
		}
		if err == api.OK {
			checkRun(t, after, 4, 4)
		}
		checkRun(t, apart, 9, 2)
	}
}

func TestStartBehindTheLastGeneration(t *testing.T) {
	area := openFrame(top) + wholeFrame + smallEntry + "x"
	d := deviceOf(t, area, "other")
	checkTurns(t, d, 4, func() { checkNoStart(t, d, smallMachine, api.ErrSpent) })
	checkHolds(t, d, area, "other")
}

func TestStartWhoseTurnFails(t *testing.T) {
	area := openFrame(1) + wholeFrame + smallEntry
	anew := openFrame(2) + smallEntry + wholeFrame
	for k, want := range [][2]string{1: {area, "last"}, 2: {area + "x", "last"}, 3: {area + "x", "lasty"}, 4: {area + "x", "lasty"}, 5: {area + "x", "lasty"}, 6: {area + "x", ""}, 7: {area + "x", ""}} {
		if k == 0 {
			continue
		}
		d := deviceOf(t, area, "last")
		checkErrno(t, "P11: Add", d.Add(0, "x"), api.OK)
		checkErrno(t, "P11: Add", d.Add(1, "y"), api.OK)
		checkErrno(t, "P12: Trouble", d.Trouble(k), api.OK)
		checkNoStart(t, d, smallMachine, api.ErrDevice)
		if k == 7 {
			checkHolds(t, d, area+"x", anew)
		}
		d.Crash(0, "") // what was behind the turn that failed would show in what lasts
		checkHolds(t, d, want[0], want[1])
		checkKnown(t, start(t, d, smallMachine), smallKnown)
	}
}

func TestStartOfWhatHasStopped(t *testing.T) {
	for _, stop := range []int{api.Halted, api.Trapped} {
		s := smallMachine
		s.Stop = stop
		e := start(t, crib.NewDevice(), s)
		checkRun(t, e, 5, 0)
		checkCounts(t, e, 0, 0, 0, 0, 0)
		if e.State() != s {
			t.Errorf("P14: Run of what has stopped changed it: %v", e.State())
		}
	}
}

func TestCrashEndsTheEngine(t *testing.T) {
	d, other := crib.NewDevice(), crib.NewDevice()
	e, apart := start(t, d, smallMachine), start(t, other, smallMachine)
	checkRun(t, e, 9, 2)
	d.Crash(1<<63-1, "")
	checkOver(t, e)
	checkCounts(t, e, 0, 0, 0, 1, 1)
	checkRun(t, apart, 9, 2)
	checkErrno(t, "P16: Persist over another device", apart.Persist(), api.OK)
	checkHolds(t, d, openFrame(1)+wholeFrame, "")
	e = start(t, d, smallMachine)
	checkRun(t, e, 9, 2)
}

func TestNilEngine(t *testing.T) {
	var e *crib.Engine
	checkOver(t, e)
	checkKnown(t, e)
	checkCounts(t, e, 0, 0, 0, 0, 0)
	if e.State() != (api.State{}) {
		t.Errorf("P1: State() of nil = %v", e.State())
	}
}

func TestKnownIsNewMemory(t *testing.T) {
	d := deviceOf(t, openFrame(1)+wholeFrame+loopEntry+jumpEntry, "")
	e := start(t, d, smallMachine)
	list := e.Known()
	_ = append(list[:1], smallKnown, smallKnown, smallKnown)
	for i := range list[:cap(list)] {
		list[:cap(list)][i] = falseKnown
	}
	checkKnown(t, e, loopKnown, jumpKnown)
	checkRun(t, e, 9, 2)
	checkErrno(t, "P16: Persist", e.Persist(), api.OK)
	for i := range list[:cap(list)] {
		list[:cap(list)][i] = falseKnown
	}
	checkKnown(t, e, loopKnown, jumpKnown, smallKnown)
	checkErrno(t, "P17: Compact", e.Compact(), api.OK)
	checkHolds(t, d, openFrame(1)+wholeFrame+loopEntry+jumpEntry+smallEntry, openFrame(2)+loopEntry+jumpEntry+smallEntry+wholeFrame)
}
