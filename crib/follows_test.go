package crib_test

import (
	"math/rand"
	"slices"
	"strings"
	"testing"

	"crib/api"
	"crib/crib"
)

// seeded gives a device whose area 0 has plans for blocks of a machine, right ones and false ones.
func seeded(t *testing.T, random *rand.Rand, s api.State) *crib.Device {
	t.Helper()
	area := openFrame(1) + wholeFrame
	for range 20 {
		words := modelBlock(s.Mem, random.Intn(api.Size))
		entry := entryFrame(words, likelyPlan(random, words), 0)
		if len(area+entry) <= 1500 {
			area += entry
		}
	}
	return deviceOf(t, area, "")
}

func TestStateIsWhatStepsMake(t *testing.T) {
	random := rand.New(rand.NewSource(12))
	var all api.Counts
	for range 300 {
		s := randomMachine(random)
		e := start(t, seeded(t, random, s), s)
		for range 10 {
			n, err := e.Run(random.Intn(100))
			if err != api.OK {
				t.Fatalf("P14: Run = %d", err)
			}
			s = stepped(t, s, n)
			if e.State() != s {
				t.Fatalf("P18: State() is not what %d steps make: Pc %d, registers %x, want %d, %x", n, e.State().Pc, e.State().Regs, s.Pc, s.Regs)
			}
		}
		c := e.Counts()
		all.Used, all.Served, all.Refused = all.Used+c.Used, all.Served+c.Served, all.Refused+c.Refused
	}
	if all.Used < 100 || all.Served < 100 || all.Refused < 100 {
		t.Errorf("too little was run by plans: %+v", all)
	}
}

// ledger tells what P19 asks of a device: for each block its plans, in the order in which they came, and which of them must be there at least.
type ledger struct {
	plans map[string][]string
	least map[string]int
}

func newLedger() ledger { return ledger{map[string][]string{}, map[string]int{}} }

func (l ledger) came(words, plan string) {
	if !slices.Contains(l.plans[words], plan) {
		l.plans[words] = append(l.plans[words], plan)
	}
}

// ran notes what may wait behind a run of n steps from s on: the own plans of the blocks on the way.
func (l ledger) ran(s api.State, n int) {
	for range n {
		words := modelBlock(s.Mem, s.Pc)
		plan, _ := modelTranslate(words)
		l.came(words, plan)
		s = modelStep(s)
	}
}

// lasts notes what an engine knows when a Persist or a Compact has answered OK.
func (l ledger) lasts(list []api.Known) {
	for _, k := range list {
		l.least[k.Words] = slices.Index(l.plans[k.Words], k.Plan)
	}
}

func (l ledger) check(t *testing.T, e *crib.Engine) {
	t.Helper()
	found := map[string]int{}
	for _, k := range e.Known() {
		at := slices.Index(l.plans[k.Words], k.Plan)
		if at < 0 {
			t.Fatalf("P19: %x is known, which never waited", k)
		}
		found[k.Words] = at
	}
	for words, least := range l.least {
		if at, ok := found[words]; !ok || at < least {
			t.Fatalf("P19: of %x the plan %d is known (%v), but %d had been made lasting", words, at, ok, least)
		}
	}
}

// ledgerOf gives the ledger of a device that an engine has just begun with: what it knows is there for good.
func ledgerOf(e *crib.Engine) ledger {
	l := newLedger()
	for _, k := range e.Known() {
		l.came(k.Words, k.Plan)
	}
	l.lasts(e.Known())
	return l
}

// threeParts is a machine with three blocks, each of which goes on at the same halt.
var (
	threeParts = machineOf(
		0x01100005, 0x02211000, 0x09000020,
		0x01100006, 0x02211000, 0x09000020,
		0x01100007, 0x02211000, 0x09000020)
	falsePart = api.Known{Words: text(0x01100006, 0x02211000, 0x09000020), Plan: "false"}
)

// work runs the three parts, each by an engine of its own, till a call fails, and notes in the ledger what was done.
func work(t *testing.T, d *crib.Device, l ledger) {
	t.Helper()
	for part := range 3 {
		s := threeParts
		s.Pc = 3 * part
		e, err := crib.Start(d, s)
		if err != api.OK {
			return
		}
		checkRun(t, e, 4, 4)
		l.ran(s, 4)
		call := e.Persist
		if part == 1 {
			call = e.Compact
		}
		if call() != api.OK {
			return
		}
		l.lasts(e.Known())
	}
}

// Whichever turn fails, and whatever stays of what did not last: what was made lasting is known.
func TestNothingIsLost(t *testing.T) {
	const turns = 7 + 3 + 4 + 3 + 4 + 2
	head := openFrame(1) + wholeFrame + entryFrame(falsePart.Words, falsePart.Plan, 0)
	for _, area := range []string{"", head, head + "torn", head + strings.Repeat(jumpEntry, 105)} {
		for k := 1; k <= turns+1; k++ {
			for keep := -1; keep < 260; keep += 3 {
				d := deviceOf(t, "", area)
				l := newLedger()
				for _, entry := range modelScan(area).List {
					l.came(entry.Words, entry.Plan)
				}
				l.lasts(modelScan(area).List)
				d.Trouble(k)
				work(t, d, l)
				d.Trouble(0)
				if keep >= 0 { // else another Start comes at once
					d.Crash(keep, strings.Repeat("c", keep%2*30))
				}
				l.check(t, start(t, d, threeParts))
			}
		}
	}
}

// Crashes and failing turns one behind the other, in the middle of whatever mends the ones before.
func TestNothingIsLostInTheLongRun(t *testing.T) {
	random := rand.New(rand.NewSource(13))
	lasting, crashes := 0, 0
	for range 300 {
		s := randomMachine(random)
		d := seeded(t, random, s)
		e := start(t, d, s)
		l := ledgerOf(e)
		for range 60 {
			switch n := random.Intn(20); {
			case n < 3:
				d.Trouble(1 + random.Intn(9))
			case n < 5:
				d.Crash(random.Intn(300), strings.Repeat("junk", random.Intn(60)))
				crashes++
			case n < 9:
				if next, err := crib.Start(d, s); err == api.OK {
					e = next
					l.check(t, e)
				}
			case n < 13:
				if e.Persist() == api.OK {
					l.lasts(e.Known())
				}
			case n < 15:
				if e.Compact() == api.OK {
					l.lasts(e.Known())
				}
			default:
				from := e.State()
				n, _ := e.Run(random.Intn(100))
				l.ran(from, n)
			}
		}
		d.Trouble(0)
		l.check(t, start(t, d, s))
		lasting += len(l.least)
	}
	if lasting < 1000 || crashes < 100 {
		t.Errorf("only %d plans were made lasting, with %d crashes", lasting, crashes)
	}
}

func TestWhatIsPersistedIsServed(t *testing.T) {
	random := rand.New(rand.NewSource(14))
	served := 0
	for range 300 {
		s := randomMachine(random)
		d := crib.NewDevice()
		e := start(t, d, s)
		fuel := random.Intn(60)
		n, _ := e.Run(fuel)
		before := e.Counts()
		if err := e.Persist(); err == api.ErrFull {
			continue
		} else if err != api.OK {
			t.Fatalf("P16: Persist = %d", err)
		}
		if random.Intn(2) == 0 {
			d.Crash(0, "")
		}
		e = start(t, d, s)
		checkRun(t, e, fuel, n)
		want := api.Counts{Used: before.Used, Served: before.Translated}
		if got := e.Counts(); got != want {
			t.Fatalf("P20: behind Persist and Start: %+v, want %+v", got, want)
		}
		for _, k := range e.Known() {
			if crib.Accept(k.Words, k.Plan) != api.OK || len(k.Plan)/api.PutLen > len(modelWordPuts(modelWords(k.Words))) {
				t.Fatalf("P20: the plan %x of %x", k.Plan, k.Words)
			}
		}
		served += want.Served
	}
	if served < 500 {
		t.Errorf("only %d plans were served", served)
	}
}
