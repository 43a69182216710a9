package crib_test

import (
	"math/rand"
	"slices"
	"strconv"
	"strings"
	"testing"

	"crib/api"
	"crib/crib"
)

// modelEngine tells P13 to P17 a second time, over the models of all else: plans are found by going through lists, and the machine's states come from steps alone.
type modelEngine struct {
	d                      *modelDevice
	over                   bool
	s                      api.State
	counts                 api.Counts
	area, generation, size int
	known, waiting, ready  []api.Known
}

func (m *modelDevice) endEngine() {
	if m.engine != nil {
		m.engine.over = true
	}
}

func modelFind(list []api.Known, words string) int {
	return slices.IndexFunc(list, func(k api.Known) bool { return k.Words == words })
}

// modelLay gives a new list with more plans in their places.
func modelLay(list, more []api.Known) []api.Known {
	list = slices.Clone(list)
	for _, k := range more {
		if at := modelFind(list, k.Words); at >= 0 {
			list[at] = k
		} else {
			list = append(list, k)
		}
	}
	return list
}

func modelEntries(list []api.Known) string {
	s := ""
	for _, k := range list {
		s += entryFrame(k.Words, k.Plan, 0)
	}
	return s
}

func modelStart(d *modelDevice, s api.State) (*modelEngine, api.Errno) {
	d.endEngine()
	if d.sync(0) != api.OK || d.sync(1) != api.OK {
		return nil, api.ErrDevice
	}
	first, err := d.read(0)
	if err != api.OK {
		return nil, api.ErrDevice
	}
	second, err := d.read(1)
	if err != api.OK {
		return nil, api.ErrDevice
	}
	e := &modelEngine{d: d, s: s}
	a, b := modelScan(first), modelScan(second)
	switch {
	case a.Whole && (!b.Whole || a.Generation >= b.Generation):
		err = e.take(0, first, a)
	case b.Whole:
		err = e.take(1, second, b)
	default:
		err = e.anew(0, 1, nil)
	}
	if err != api.OK {
		return nil, err
	}
	d.engine = e
	return e, api.OK
}

func (e *modelEngine) take(area int, s string, a api.Area) api.Errno {
	list := modelLay(nil, a.List)
	if len(s) > a.Good {
		return e.anew(1-area, a.Generation+1, list)
	}
	e.area, e.generation, e.size, e.known = area, a.Generation, len(s), list
	return api.OK
}

func (e *modelEngine) anew(area, generation int, list []api.Known) api.Errno {
	s := openFrame(generation) + modelEntries(list) + wholeFrame
	switch {
	case generation > top:
		return api.ErrSpent
	case len(s) > 1500:
		return api.ErrFull
	case e.d.clear(area) != api.OK || e.d.add(area, s) != api.OK || e.d.sync(area) != api.OK:
		e.over = true
		return api.ErrDevice
	}
	e.area, e.generation, e.size, e.known, e.waiting = area, generation, len(s), list, nil
	return api.OK
}

func (e *modelEngine) run(fuel int) (int, api.Errno) {
	if e.over {
		return 0, api.ErrOver
	}
	if fuel < 0 || fuel > 2000 {
		return 0, api.ErrArg
	}
	made := 0
	for e.s.Stop == 0 && made < fuel {
		words := modelBlock(e.s.Mem, e.s.Pc)
		n := 1
		if len(words)/4 <= fuel-made {
			n = len(words) / 4
			e.count(words)
		}
		for range n {
			e.s = modelStep(e.s)
		}
		made += n
	}
	return made, api.OK
}

func (e *modelEngine) count(words string) {
	if modelFind(e.ready, words) >= 0 {
		e.counts.Used++
		return
	}
	e.ready = append(e.ready, api.Known{Words: words})
	if at := modelFind(e.known, words); at >= 0 {
		if modelAccept(words, e.known[at].Plan) == api.OK {
			e.counts.Served++
			return
		}
		e.counts.Refused++
	}
	e.counts.Translated++
	plan, _ := modelTranslate(words)
	e.waiting = append(e.waiting, api.Known{Words: words, Plan: plan})
}

func (e *modelEngine) persist() api.Errno {
	s := modelEntries(e.waiting)
	switch {
	case e.over:
		return api.ErrOver
	case s == "":
		return api.OK
	case e.size+len(s) > 1500:
		return e.compact()
	case e.d.add(e.area, s) != api.OK || e.d.sync(e.area) != api.OK:
		e.over = true
		return api.ErrDevice
	}
	e.size, e.known, e.waiting = e.size+len(s), modelLay(e.known, e.waiting), nil
	return api.OK
}

func (e *modelEngine) compact() api.Errno {
	if e.over {
		return api.ErrOver
	}
	return e.anew(1-e.area, e.generation+1, modelLay(e.known, e.waiting))
}

// pair is an engine and its model.
type pair struct {
	e *crib.Engine
	m *modelEngine
}

// play lets a device, its engines and their models do the same.
type play struct {
	t        *testing.T
	random   *rand.Rand
	d        *crib.Device
	m        *modelDevice
	machines []api.State
	pairs    []pair // the last one is the newest
	seen     map[string]int
}

func (p *play) same(what string, got, want api.Errno) {
	p.t.Helper()
	if got != want {
		p.t.Fatalf("%s = %d, want %d", what, got, want)
	}
	p.seen[what+" "+strconv.Itoa(int(got))]++
}

// check holds the engines and what the device has against the models. The turns that this takes are not counted: none may fail, and what is to fail is told anew behind them.
func (p *play) check() {
	p.t.Helper()
	for _, q := range p.pairs {
		c := q.m.counts
		c.Waiting = len(q.m.waiting)
		if got := q.e.Counts(); got != c {
			p.t.Fatalf("P15: Counts() = %+v, want %+v", got, c)
		}
		if q.e.State() != q.m.s {
			p.t.Fatalf("P18: State() is not what the steps make: Pc %d, registers %x, want %d, %x", q.e.State().Pc, q.e.State().Regs, q.m.s.Pc, q.m.s.Regs)
		}
		if got := q.e.Known(); !slices.Equal(got, q.m.known) {
			p.t.Fatalf("P15: Known() = %x, want %x", got, q.m.known)
		}
	}
	p.d.Trouble(0)
	for i := range 2 {
		if got, _ := p.d.Read(i); got != p.m.lasting[i]+p.m.loose[i] {
			p.t.Fatalf("area %d = %x, want %x", i, got, p.m.lasting[i]+p.m.loose[i])
		}
	}
	p.d.Trouble(len(p.m.turns))
}

func (p *play) start() {
	s := p.machines[p.random.Intn(len(p.machines))]
	e, err := crib.Start(p.d, s)
	m, want := modelStart(p.m, s)
	p.same("P13: Start", err, want)
	if (e == nil) != (m == nil) {
		p.t.Fatalf("P13: Start = %v, %d", e, err)
	}
	if e != nil {
		p.pairs = append(p.pairs, pair{e, m})
	}
	p.pairs = p.pairs[max(0, len(p.pairs)-3):]
}

func (p *play) run(q pair) {
	fuel := p.random.Intn(60)
	if p.random.Intn(4) == 0 {
		fuel = p.random.Intn(2100) - 50
	}
	n, err := q.e.Run(fuel)
	wantN, want := q.m.run(fuel)
	p.same("P14: Run", err, want)
	if n != wantN {
		p.t.Fatalf("P14: Run(%d) = %d, want %d", fuel, n, wantN)
	}
}

func (p *play) crash() {
	keep, junk := p.random.Intn(200)-10, strings.Repeat("j", p.random.Intn(3)*p.random.Intn(40))
	p.d.Crash(keep, junk)
	p.m.crash(keep, junk)
}

func (p *play) trouble() {
	k := p.random.Intn(12) - 1
	p.same("P12: Trouble", p.d.Trouble(k), p.m.trouble(k))
}

// blockOnTheWay gives a block that one of the machines may well run.
func (p *play) blockOnTheWay() string {
	s := p.machines[p.random.Intn(len(p.machines))]
	for range p.random.Intn(8) {
		for range len(modelBlock(s.Mem, s.Pc)) / 4 {
			if s.Stop == 0 {
				s = modelStep(s)
			}
		}
	}
	return modelBlock(s.Mem, s.Pc)
}

// others writes what no engine wrote: entries with plans that may well be false, junk, or a whole area.
func (p *play) others() {
	area := p.random.Intn(2)
	s := ""
	if p.random.Intn(3) == 0 {
		p.same("P11: Clear", p.d.Clear(area), p.m.clear(area))
		generation := []int{1, 2, 3, 4, 5, 6, top - 1, top}[p.random.Intn(8)]
		s = openFrame(generation) + wholeFrame
	}
	for range p.random.Intn(8) {
		words := p.blockOnTheWay()
		for range 1 + p.random.Intn(3) {
			s += entryFrame(words, likelyPlan(p.random, words), 0)
		}
	}
	if p.random.Intn(5) == 0 {
		s += "junk"
	}
	p.same("P11: Add", p.d.Add(area, s), p.m.add(area, s))
}

func (p *play) move() {
	if len(p.pairs) == 0 || p.pairs[len(p.pairs)-1].m.over && p.random.Intn(2) == 0 {
		p.start()
		return
	}
	q := p.pairs[len(p.pairs)-1]
	if p.random.Intn(12) == 0 {
		q = p.pairs[p.random.Intn(len(p.pairs))]
	}
	switch n := p.random.Intn(40); {
	case n < 4:
		p.start()
	case n < 7:
		p.crash()
	case n < 8:
		p.trouble()
	case n < 10:
		p.others()
	case n < 14:
		p.same("P17: Compact", q.e.Compact(), q.m.compact())
	case n < 24:
		p.same("P16: Persist", q.e.Persist(), q.m.persist())
	default:
		p.run(q)
	}
}

// randomMachine gives a machine that goes round, one in few blocks, another in many, and changes its own words here and there.
func randomMachine(random *rand.Rand) api.State {
	s := api.State{Pc: random.Intn(api.Size)}
	most := []int{100, 400, 2000}[random.Intn(3)]
	for i := range s.Regs {
		s.Regs[i] = random.Intn(api.Size)
	}
	for i := range s.Mem {
		to := random.Intn(api.Size)
		switch n := random.Intn(most); {
		case n < 12:
			s.Mem[i] = 0x09000000 | to
		case n < 18:
			s.Mem[i] = 0x08000000 | random.Intn(1<<24)&0x330000 | to
		case n < 22:
			s.Mem[i] = 0x07000000 | random.Intn(1<<24)&0x770000 | to
		case n < 23:
			s.Mem[i] = 0x0a000000 | random.Intn(8)<<20
		case n < 30:
			s.Mem[i] = randomWord(random)
		default:
			s.Mem[i] = (1+random.Intn(6))<<24 | random.Intn(1<<24)&0x333083
		}
	}
	return s
}

func playOf(t *testing.T, random *rand.Rand, seen map[string]int) *play {
	p := &play{t: t, random: random, d: crib.NewDevice(), m: &modelDevice{}, seen: seen}
	for range 3 {
		p.machines = append(p.machines, randomMachine(random))
	}
	return p
}

func TestEngineAsTheModel(t *testing.T) {
	random := rand.New(rand.NewSource(11))
	seen := map[string]int{}
	for range 500 {
		p := playOf(t, random, seen)
		for range 80 {
			p.move()
			p.check()
		}
		for _, q := range p.pairs {
			for i, n := range []int{q.m.counts.Used, q.m.counts.Served, q.m.counts.Refused, q.m.counts.Translated} {
				seen["count "+strconv.Itoa(i)] += n
			}
		}
	}
	for _, what := range []string{
		"P13: Start 0", "P13: Start 15", "P13: Start 16",
		"P14: Run 0", "P14: Run 1", "P14: Run 17",
		"P16: Persist 0", "P16: Persist 14", "P16: Persist 15", "P16: Persist 16", "P16: Persist 17",
		"P17: Compact 0", "P17: Compact 14", "P17: Compact 15", "P17: Compact 16", "P17: Compact 17",
		"count 0", "count 1", "count 2", "count 3",
	} {
		if seen[what] < 20 {
			t.Errorf("%s was there %d times alone: %v", what, seen[what], seen)
		}
	}
}

// FuzzEngine lets the engine start over any two areas, and holds it against its model there.
func FuzzEngine(f *testing.F) {
	f.Add(openFrame(1)+wholeFrame+loopEntry+jumpEntry, "", int64(1))
	f.Add(openFrame(1)+falseEntry+wholeFrame+"x", openFrame(2)+loopEntry, int64(2))
	f.Add(openFrame(top)+wholeFrame, openFrame(top)+wholeFrame+"x", int64(3))
	f.Fuzz(func(t *testing.T, first, second string, seed int64) {
		p := playOf(t, rand.New(rand.NewSource(seed)), map[string]int{})
		p.machines = append(p.machines, loopMachine, smallMachine)
		for i, s := range []string{first, second} {
			p.same("P11: Add", p.d.Add(i, s), p.m.add(i, s))
		}
		for range 20 {
			p.move()
			p.check()
		}
	})
}
