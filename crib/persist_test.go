package crib_test

import (
	"strings"
	"testing"

	"crib/api"
	"crib/crib"
)

// entriesOf gives Entry frames of n bytes in all, each of another block, whose plans are none; and what they tell.
func entriesOf(n int) (string, []api.Known) {
	const least, most = 13, 208
	s := ""
	var list []api.Known
	for n > 0 {
		size := min(n, most)
		if rest := n - size; rest > 0 && rest < least {
			size -= least
		}
		k := api.Known{Words: text(0x09000000 + len(list) + 1), Plan: strings.Repeat("p", size-least)}
		s += entryFrame(k.Words, k.Plan, 0)
		list = append(list, k)
		n -= size
	}
	return s, list
}

// ranSmall gives an engine that has run the small machine: one plan waits, if none was known.
func ranSmall(t *testing.T, d *crib.Device) *crib.Engine {
	t.Helper()
	e := start(t, d, smallMachine)
	checkRun(t, e, 9, 2)
	return e
}

func TestPersist(t *testing.T) {
	d := crib.NewDevice()
	e := start(t, d, loopMachine)
	checkTurns(t, d, 0, func() { checkErrno(t, "P16: Persist of nothing", e.Persist(), api.OK) })
	checkRun(t, e, 10, 10)
	checkTurns(t, d, 2, func() { checkErrno(t, "P16: Persist", e.Persist(), api.OK) })
	checkHolds(t, d, openFrame(1)+wholeFrame+loopEntry+jumpEntry, "")
	checkKnown(t, e, loopKnown, jumpKnown)
	checkCounts(t, e, 2, 0, 0, 2, 0)
	checkTurns(t, d, 0, func() { checkErrno(t, "P16: Persist of nothing", e.Persist(), api.OK) })
	checkRun(t, e, 3, 3)
	checkRun(t, e, 1, 1)
	checkErrno(t, "P16: Persist", e.Persist(), api.OK)
	storeKnown := api.Known{Words: text(0x07210000)}
	area := openFrame(1) + wholeFrame + loopEntry + jumpEntry + entryFrame(storeKnown.Words, "", 0)
	checkHolds(t, d, area, "")
	checkKnown(t, e, loopKnown, jumpKnown, storeKnown)
	d.Crash(0, "")
	checkHolds(t, d, area, "")
	checkKnown(t, start(t, d, loopMachine), loopKnown, jumpKnown, storeKnown)
}

func TestPersistInThePlaceOfWhatWasKnown(t *testing.T) {
	area := openFrame(1) + wholeFrame + jumpEntry + falseEntry + loopEntry
	d := deviceOf(t, "", area)
	e := ranSmall(t, d)
	checkKnown(t, e, jumpKnown, falseKnown, loopKnown)
	checkErrno(t, "P16: Persist", e.Persist(), api.OK)
	checkKnown(t, e, jumpKnown, smallKnown, loopKnown)
	checkHolds(t, d, "", area+smallEntry)
	e = ranSmall(t, d)
	checkKnown(t, e, jumpKnown, smallKnown, loopKnown)
	checkCounts(t, e, 0, 1, 0, 0, 0)
}

func TestPersistWithJustEnoughRoom(t *testing.T) {
	head := openFrame(1) + wholeFrame
	fill := strings.Repeat(jumpEntry, 100) // one block, so that what is written anew is short
	rest := 1500 - len(head+fill) - len(smallEntry)
	room := head + fill + entryFrame(text(0x09000000), strings.Repeat("p", rest-13), 0)
	last := api.Known{Words: jumpKnown.Words, Plan: strings.Repeat("p", rest-13)}
	d := deviceOf(t, room, "other")
	e := ranSmall(t, d)
	checkTurns(t, d, 2, func() { checkErrno(t, "P16: Persist into 1500 bytes", e.Persist(), api.OK) })
	checkHolds(t, d, room+smallEntry, "other")
	checkKnown(t, e, last, smallKnown)

	last.Plan += "p"
	full := head + fill + entryFrame(last.Words, last.Plan, 0)
	d = deviceOf(t, full, "other")
	e = ranSmall(t, d)
	checkTurns(t, d, 3, func() { checkErrno(t, "P16: Persist into 1501 bytes", e.Persist(), api.OK) })
	checkHolds(t, d, full, openFrame(2)+entryFrame(last.Words, last.Plan, 0)+smallEntry+wholeFrame)
	checkKnown(t, e, last, smallKnown)
	checkCounts(t, e, 0, 0, 0, 1, 0)
	d.Crash(0, "")
	checkKnown(t, start(t, d, smallMachine), last, smallKnown)
}

// The room is that of the area that the engine has by then, with all that it laid there itself.
func TestPersistTillAllIsFull(t *testing.T) {
	s := machineOf(0x01100001, 0x06200000, 0x02223000, 0x07200000, 0x09000000) // each time round its first block is another
	s.Regs[3] = 1
	const entryLen = 8 + 1 + 4*4 + 3*8
	d := deviceOf(t, openFrame(1)+wholeFrame+strings.Repeat(jumpEntry, 80), "")
	e := start(t, d, s)
	sizes := [2]int{20 + 80*13, 0}
	for n := 1; n <= 29; n++ {
		checkRun(t, e, 5, 5)
		checkErrno(t, "P16: Persist", e.Persist(), api.OK)
		if n <= 8 {
			sizes[0] += entryLen
		} else {
			sizes[1] = 20 + 13 + n*entryLen // the jump is there once
		}
		for area, want := range sizes {
			if got, _ := d.Read(area); len(got) != want {
				t.Fatalf("P16: behind Persist %d area %d has %d bytes, want %d", n, area, len(got), want)
			}
		}
	}
	checkRun(t, e, 5, 5)
	checkErrno(t, "P16: Persist", e.Persist(), api.ErrFull)
	checkCounts(t, e, 29, 1, 0, 30, 1)
	d.Crash(0, "")
	if got := start(t, d, s).Known(); len(got) != 30 {
		t.Errorf("P16: behind another Start %d plans are known, want 30", len(got))
	}
}

func TestPersistWithoutRoomForAll(t *testing.T) {
	entries, list := entriesOf(1480 - len(smallEntry) + 1)
	area := openFrame(1) + wholeFrame + entries
	d := deviceOf(t, area, "other")
	e := ranSmall(t, d)
	checkTurns(t, d, 0, func() { checkErrno(t, "P16: Persist", e.Persist(), api.ErrFull) })
	checkHolds(t, d, area, "other")
	checkKnown(t, e, list...)
	checkCounts(t, e, 0, 0, 0, 1, 1)
	checkRun(t, e, 5, 0) // it is not over
	checkErrno(t, "P16: Persist once more", e.Persist(), api.ErrFull)
	checkErrno(t, "P17: Compact", e.Compact(), api.ErrFull)
	checkCounts(t, e, 0, 0, 0, 1, 1)
}

func TestPersistBehindTheLastGeneration(t *testing.T) {
	area := openFrame(top) + wholeFrame
	d := deviceOf(t, area, "other")
	e := ranSmall(t, d)
	checkErrno(t, "P16: Persist", e.Persist(), api.OK) // there is room
	checkHolds(t, d, area+smallEntry, "other")

	full := area + strings.Repeat(jumpEntry, 112)
	d = deviceOf(t, full, "other")
	e = ranSmall(t, d)
	checkTurns(t, d, 0, func() { checkErrno(t, "P16: Persist", e.Persist(), api.ErrSpent) })
	checkHolds(t, d, full, "other")
	checkKnown(t, e, jumpKnown)
	checkCounts(t, e, 0, 0, 0, 1, 1)
	checkRun(t, e, 5, 0)
}

func TestPersistWhoseTurnFails(t *testing.T) {
	head := openFrame(1) + wholeFrame
	for k, laid := range []string{1: "", 2: smallEntry} {
		if k == 0 {
			continue
		}
		d := crib.NewDevice()
		e := ranSmall(t, d)
		checkErrno(t, "P12: Trouble", d.Trouble(k), api.OK)
		checkErrno(t, "P16: Persist", e.Persist(), api.ErrDevice)
		checkOver(t, e)
		checkCounts(t, e, 0, 0, 0, 1, 1)
		checkKnown(t, e)
		checkState(t, e, stepped(t, smallMachine, 2))
		checkHolds(t, d, head+laid, "")
		again := ranSmall(t, d)
		checkCounts(t, again, 0, k-1, 0, 2-k, 2-k)
	}
	d := crib.NewDevice()
	e := ranSmall(t, d)
	checkErrno(t, "P12: Trouble", d.Trouble(2), api.OK)
	checkErrno(t, "P16: Persist", e.Persist(), api.ErrDevice)
	d.Crash(0, "")
	checkKnown(t, start(t, d, smallMachine))
	checkHolds(t, d, head, "")
}

// A turn that fails in a call of the device itself, or that is to fail later, does not end the engine.
func TestTroubleOfOthers(t *testing.T) {
	d := crib.NewDevice()
	e := ranSmall(t, d)
	checkErrno(t, "P12: Trouble", d.Trouble(1), api.OK)
	checkErrno(t, "P12: Sync", d.Sync(0), api.ErrDevice)
	checkErrno(t, "P12: Trouble", d.Trouble(3), api.OK)
	checkErrno(t, "P16: Persist", e.Persist(), api.OK)
	checkErrno(t, "P17: Compact", e.Compact(), api.ErrDevice)
	checkOver(t, e)
}

func TestPersistWhereOthersHaveWritten(t *testing.T) {
	d := crib.NewDevice()
	e := ranSmall(t, d)
	others := strings.Repeat("x", 1480-len(smallEntry)+1)
	checkErrno(t, "P11: Add", d.Add(0, others), api.OK)
	checkTurns(t, d, 1, func() { checkErrno(t, "P16: Persist that finds no room", e.Persist(), api.ErrDevice) })
	checkOver(t, e)
	checkCounts(t, e, 0, 0, 0, 1, 1)
	checkKnown(t, e)
	checkHolds(t, d, openFrame(1)+wholeFrame+others, "")

	d = crib.NewDevice()
	e = ranSmall(t, d)
	checkErrno(t, "P11: Add", d.Add(0, others[1:]), api.OK)
	checkErrno(t, "P16: Persist that finds room", e.Persist(), api.OK)
	checkKnown(t, e, smallKnown) // as it cannot tell
	checkHolds(t, d, openFrame(1)+wholeFrame+others[1:]+smallEntry, "")

	// That others have made room does not count either.
	full := openFrame(1) + wholeFrame + strings.Repeat(jumpEntry, 112)
	d = deviceOf(t, full, "")
	e = ranSmall(t, d)
	checkErrno(t, "P11: Clear", d.Clear(0), api.OK)
	checkErrno(t, "P16: Persist", e.Persist(), api.OK)
	checkHolds(t, d, "", openFrame(2)+jumpEntry+smallEntry+wholeFrame)
}

func TestCompact(t *testing.T) {
	d := deviceOf(t, openFrame(1)+wholeFrame+jumpEntry+falseEntry+loopEntry+jumpEntry, "other")
	first, _ := d.Read(0)
	e := ranSmall(t, d)
	checkCounts(t, e, 0, 0, 1, 1, 1)
	checkTurns(t, d, 3, func() { checkErrno(t, "P17: Compact", e.Compact(), api.OK) })
	all := jumpEntry + smallEntry + loopEntry + wholeFrame
	checkHolds(t, d, first, openFrame(2)+all)
	checkKnown(t, e, jumpKnown, smallKnown, loopKnown)
	checkCounts(t, e, 0, 0, 1, 1, 0)
	checkErrno(t, "P17: Compact of the same", e.Compact(), api.OK)
	checkHolds(t, d, openFrame(3)+all, openFrame(2)+all)
	d.Crash(0, "")
	checkHolds(t, d, openFrame(3)+all, openFrame(2)+all)
	e = start(t, d, loopMachine)
	checkRun(t, e, 3, 3)
	checkRun(t, e, 1, 1)
	storeEntry := entryFrame(text(0x07210000), "", 0)
	checkErrno(t, "P16: Persist", e.Persist(), api.OK)
	checkHolds(t, d, openFrame(3)+all+storeEntry, openFrame(2)+all)
	checkErrno(t, "P17: Compact", e.Compact(), api.OK)
	checkHolds(t, d, openFrame(3)+all+storeEntry, openFrame(4)+jumpEntry+smallEntry+loopEntry+storeEntry+wholeFrame)
}

func TestCompactOfNothing(t *testing.T) {
	d := crib.NewDevice()
	e := start(t, d, smallMachine)
	checkErrno(t, "P17: Compact", e.Compact(), api.OK)
	checkHolds(t, d, openFrame(1)+wholeFrame, openFrame(2)+wholeFrame)
	checkRun(t, e, 9, 2)
	checkErrno(t, "P17: Compact", e.Compact(), api.OK)
	checkHolds(t, d, openFrame(3)+smallEntry+wholeFrame, openFrame(2)+wholeFrame)
	checkKnown(t, e, smallKnown)
}

func TestCompactWithJustEnoughRoom(t *testing.T) {
	entries, list := entriesOf(1480 - len(smallEntry))
	area := openFrame(1) + wholeFrame + entries
	d := deviceOf(t, area, "other")
	e := ranSmall(t, d)
	checkErrno(t, "P17: Compact to 1500 bytes", e.Compact(), api.OK)
	checkHolds(t, d, area, openFrame(2)+entries+smallEntry+wholeFrame)
	checkKnown(t, e, append(list, smallKnown)...)
	checkErrno(t, "P17: Compact of 1500 bytes", e.Compact(), api.OK)

	entries, list = entriesOf(1480 - len(smallEntry) + 1)
	area = openFrame(1) + wholeFrame + entries
	d = deviceOf(t, area, "other")
	e = ranSmall(t, d)
	checkTurns(t, d, 0, func() { checkErrno(t, "P17: Compact to 1501 bytes", e.Compact(), api.ErrFull) })
	checkHolds(t, d, area, "other")
	checkKnown(t, e, list...)
	checkCounts(t, e, 0, 0, 0, 1, 1)
	checkRun(t, e, 5, 0)
}

func TestCompactBehindTheLastGeneration(t *testing.T) {
	for n, want := range []api.Errno{api.OK, api.ErrSpent} {
		area := openFrame(top-1+n) + wholeFrame
		d := deviceOf(t, "other", area)
		e := ranSmall(t, d)
		checkErrno(t, "P17: Compact", e.Compact(), want)
		if want == api.OK {
			checkHolds(t, d, openFrame(top)+smallEntry+wholeFrame, area)
			checkErrno(t, "P17: Compact behind the last generation", e.Compact(), api.ErrSpent)
			checkCounts(t, e, 0, 0, 0, 1, 0)
			continue
		}
		checkHolds(t, d, "other", area)
		checkCounts(t, e, 0, 0, 0, 1, 1)
		checkErrno(t, "P16: Persist", e.Persist(), api.OK)
	}
	entries, _ := entriesOf(1480)
	e := ranSmall(t, deviceOf(t, openFrame(top)+wholeFrame+entries, ""))
	checkErrno(t, "P17: Compact", e.Compact(), api.ErrSpent) // told ahead of ErrFull
	checkErrno(t, "P16: Persist", e.Persist(), api.ErrSpent)
	checkRun(t, e, 5, 0)
}

func TestCompactWhoseTurnFails(t *testing.T) {
	area := openFrame(1) + wholeFrame + jumpEntry
	anew := openFrame(2) + jumpEntry + smallEntry + wholeFrame
	for k, other := range []string{1: "other", 2: "", 3: anew} {
		if k == 0 {
			continue
		}
		d := deviceOf(t, area, "other")
		e := ranSmall(t, d)
		checkErrno(t, "P12: Trouble", d.Trouble(k), api.OK)
		checkErrno(t, "P17: Compact", e.Compact(), api.ErrDevice)
		checkOver(t, e)
		checkCounts(t, e, 0, 0, 0, 1, 1)
		checkKnown(t, e, jumpKnown)
		checkHolds(t, d, area, other)
		for keep := 0; keep < len(anew); keep += 7 {
			d := deviceOf(t, area, "other")
			e := ranSmall(t, d)
			checkErrno(t, "P12: Trouble", d.Trouble(k), api.OK)
			checkErrno(t, "P17: Compact", e.Compact(), api.ErrDevice)
			d.Crash(keep, "")
			checkKnown(t, start(t, d, smallMachine), jumpKnown)
		}
	}
}
