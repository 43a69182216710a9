package crib_test

import (
	"math/rand"
	"strings"
	"testing"

	"crib/api"
	"crib/crib"
)

func checkErrno(t *testing.T, what string, got, want api.Errno) {
	t.Helper()
	if got != want {
		t.Errorf("%s = %d, want %d", what, got, want)
	}
}

func checkHolds(t *testing.T, d *crib.Device, first, second string) {
	t.Helper()
	for i, want := range []string{first, second} {
		if got, e := d.Read(i); e != api.OK || got != want {
			t.Errorf("P11: Read(%d) = %.40q, %d, want %.40q, OK", i, got, e, want)
		}
	}
}

// filled gives a device whose area 0 has "last" that lasts, and "loose" that does not; area 1 has "other", which does not last.
func filled(t *testing.T) *crib.Device {
	t.Helper()
	d := crib.NewDevice()
	checkErrno(t, "P11: Add", d.Add(0, "last"), api.OK)
	checkErrno(t, "P11: Sync", d.Sync(0), api.OK)
	checkErrno(t, "P11: Add", d.Add(0, "loose"), api.OK)
	checkErrno(t, "P11: Add", d.Add(1, "other"), api.OK)
	return d
}

func TestAreas(t *testing.T) {
	d := crib.NewDevice()
	checkHolds(t, d, "", "")
	checkErrno(t, "P11: Add", d.Add(0, "a\x00\xff"), api.OK)
	checkHolds(t, d, "a\x00\xff", "")
	checkErrno(t, "P11: Add", d.Add(0, ""), api.OK)
	checkErrno(t, "P11: Add", d.Add(0, "b"), api.OK)
	checkErrno(t, "P11: Add", d.Add(1, "c"), api.OK)
	checkErrno(t, "P11: Sync", d.Sync(0), api.OK)
	checkHolds(t, d, "a\x00\xffb", "c")
	checkErrno(t, "P11: Clear", d.Clear(0), api.OK)
	checkHolds(t, d, "", "c")
	checkErrno(t, "P11: Add", d.Add(0, "d"), api.OK)
	checkErrno(t, "P11: Clear", d.Clear(1), api.OK)
	checkHolds(t, d, "d", "")
}

func TestNoSuchArea(t *testing.T) {
	d := filled(t)
	for _, area := range []int{-1 << 63, -1, 2, 3, 1 << 32, 1<<63 - 1} {
		// An area that there is not is told ahead of all else.
		checkErrno(t, "P11: Add", d.Add(area, strings.Repeat("x", 1501)), api.ErrArea)
		checkErrno(t, "P11: Add", d.Add(area, ""), api.ErrArea)
		checkErrno(t, "P11: Clear", d.Clear(area), api.ErrArea)
		checkErrno(t, "P11: Sync", d.Sync(area), api.ErrArea)
		if s, e := d.Read(area); s != "" || e != api.ErrArea {
			t.Errorf("P11: Read(%d) = %q, %d, want ErrArea", area, s, e)
		}
	}
	checkHolds(t, d, "lastloose", "other")
	d.Crash(0, "")
	checkHolds(t, d, "last", "")
}

func TestFullArea(t *testing.T) {
	full := strings.Repeat("x", 1500)
	d := crib.NewDevice()
	checkErrno(t, "P11: Add of 1501 bytes", d.Add(0, full+"x"), api.ErrFull)
	checkErrno(t, "P11: Add of 2^20 bytes", d.Add(0, strings.Repeat("x", 1<<20)), api.ErrFull)
	checkHolds(t, d, "", "")
	checkErrno(t, "P11: Add of 1500 bytes", d.Add(0, full), api.OK)
	checkErrno(t, "P11: Add to 1500 bytes", d.Add(0, "x"), api.ErrFull)
	checkErrno(t, "P11: Add of nothing to 1500 bytes", d.Add(0, ""), api.OK)
	checkErrno(t, "P11: Add", d.Add(1, full[1:]), api.OK)
	checkErrno(t, "P11: Add of 2 to 1499 bytes", d.Add(1, "yz"), api.ErrFull)
	checkHolds(t, d, full, full[1:])
	checkErrno(t, "P11: Add of 1 to 1499 bytes", d.Add(1, "y"), api.OK)
	checkHolds(t, d, full, full[1:]+"y")
	checkErrno(t, "P11: Clear", d.Clear(0), api.OK)
	checkErrno(t, "P11: Add behind Clear", d.Add(0, "z"), api.OK)
	checkHolds(t, d, "z", full[1:]+"y")
}

func TestCrash(t *testing.T) {
	for _, c := range []struct {
		keep          int
		junk          string
		first, second string
	}{
		{0, "", "last", ""},
		{-1, "", "last", ""},
		{-1 << 63, "J", "lastJ", "J"},
		{0, "JUNK", "lastJUNK", "JUNK"},
		{0, "JUNKJ", "lastJUNKJ", "JUNKJ"},
		{0, "0123456789", "last01234", "01234"},
		{1, "", "lastl", "o"},
		{2, "JUNK", "lastloJUN", "otJUN"},
		{3, "J", "lastlooJ", "othJ"},
		{4, "JUNK", "lastloosJ", "otheJ"},
		{5, "JUNK", "lastloose", "other"},
		{6, "JUNK", "lastloose", "other"},
		{1<<63 - 1, "JUNK", "lastloose", "other"},
	} {
		d := filled(t)
		d.Crash(c.keep, c.junk)
		checkHolds(t, d, c.first, c.second)
		d.Crash(0, "more") // all lasts now
		checkHolds(t, d, c.first, c.second)
		checkErrno(t, "P11: Add behind a crash", d.Add(0, "ab"), api.OK)
		d.Crash(1, "")
		checkHolds(t, d, c.first+"a", c.second)
	}
}

func TestWhatLasts(t *testing.T) {
	d := filled(t)
	checkErrno(t, "P11: Sync", d.Sync(1), api.OK)
	d.Crash(0, "")
	checkHolds(t, d, "last", "other") // of the other area nothing lasts by it
	checkErrno(t, "P11: Clear", d.Clear(0), api.OK)
	d.Crash(9, "JUNK")
	checkHolds(t, d, "", "other")
	checkErrno(t, "P11: Clear", d.Clear(1), api.OK)
	checkErrno(t, "P11: Add", d.Add(1, "new ones"), api.OK)
	d.Crash(3, "")
	checkHolds(t, d, "", "new")
}

func TestTroubleOfEachCall(t *testing.T) {
	d := filled(t)
	for _, call := range []func() api.Errno{
		func() api.Errno { return d.Add(0, "x") },
		func() api.Errno { return d.Add(0, strings.Repeat("x", 1500)) }, // ErrDevice is told first
		func() api.Errno { return d.Clear(0) },
		func() api.Errno { return d.Clear(1) },
		func() api.Errno { return d.Sync(0) },
		func() api.Errno { return d.Sync(1) },
		func() api.Errno {
			s, e := d.Read(0)
			if s != "" {
				t.Errorf("P12: Read that fails = %q", s)
			}
			return e
		},
	} {
		checkErrno(t, "P12: Trouble(1)", d.Trouble(1), api.OK)
		checkErrno(t, "P12: a turn that fails", call(), api.ErrDevice)
		checkHolds(t, d, "lastloose", "other") // the next turn fails no more
	}
	d.Crash(0, "")
	checkHolds(t, d, "last", "")
}

func TestWhichTurnFails(t *testing.T) {
	for k := 1; k <= 9; k++ {
		d := filled(t)
		checkErrno(t, "P12: Trouble", d.Trouble(k), api.OK)
		turns := []func() api.Errno{
			func() api.Errno { return d.Add(0, "x") },
			func() api.Errno { return d.Sync(1) },
			func() api.Errno { _, e := d.Read(0); return e },
			func() api.Errno { return d.Clear(1) },
		}
		for i := 1; i <= 20; i++ {
			checkErrno(t, "P12: no turn", d.Sync(2), api.ErrArea)
			want := api.OK
			if i == k {
				want = api.ErrDevice
			}
			checkErrno(t, "P12: a turn", turns[i%4](), want)
		}
	}
}

func TestTurnWithoutRoomIsOne(t *testing.T) {
	d := crib.NewDevice()
	checkErrno(t, "P12: Trouble(2)", d.Trouble(2), api.OK)
	checkErrno(t, "P11: Add without room", d.Add(0, strings.Repeat("x", 1501)), api.ErrFull)
	checkErrno(t, "P12: the second turn", d.Sync(0), api.ErrDevice)
}

func TestTroubleTakesThePlaceOfTheLast(t *testing.T) {
	d := crib.NewDevice()
	checkErrno(t, "P12: Trouble(1)", d.Trouble(1), api.OK)
	checkErrno(t, "P12: Trouble(2)", d.Trouble(2), api.OK)
	checkErrno(t, "P12: the first turn", d.Sync(0), api.OK)
	checkErrno(t, "P12: the second turn", d.Sync(0), api.ErrDevice)
	checkErrno(t, "P12: Trouble(1)", d.Trouble(1), api.OK)
	checkErrno(t, "P12: Trouble(0)", d.Trouble(0), api.OK)
	checkErrno(t, "P12: a turn behind Trouble(0)", d.Sync(0), api.OK)
	checkErrno(t, "P12: Trouble(2)", d.Trouble(2), api.OK)
	for _, k := range []int{-1, -2, -1 << 63} {
		checkErrno(t, "P12: Trouble of less than 0", d.Trouble(k), api.ErrArg)
	}
	checkErrno(t, "P12: the first turn", d.Sync(0), api.OK)
	checkErrno(t, "P12: the second turn, as a Trouble that is refused changes nothing", d.Sync(0), api.ErrDevice)
	checkErrno(t, "P12: Trouble of the greatest number", d.Trouble(1<<63-1), api.OK)
	checkHolds(t, d, "", "")
	checkErrno(t, "P12: Trouble(1)", d.Trouble(1), api.OK)
	d.Crash(0, "")
	checkHolds(t, d, "", "")
}

func TestNilDevice(t *testing.T) {
	var d *crib.Device
	for _, area := range []int{-1, 0, 1, 2} {
		checkErrno(t, "P1: Add of nil", d.Add(area, "x"), api.ErrArea)
		checkErrno(t, "P1: Clear of nil", d.Clear(area), api.ErrArea)
		checkErrno(t, "P1: Sync of nil", d.Sync(area), api.ErrArea)
		if s, e := d.Read(area); s != "" || e != api.ErrArea {
			t.Errorf("P1: Read of nil = %q, %d, want ErrArea", s, e)
		}
	}
	checkErrno(t, "P1: Trouble of nil", d.Trouble(-1), api.ErrArg)
	checkErrno(t, "P1: Trouble of nil", d.Trouble(1), api.OK)
	d.Crash(3, "JUNK")
}

func TestDevicesAreApart(t *testing.T) {
	a, b := filled(t), crib.NewDevice()
	checkErrno(t, "P12: Trouble", a.Trouble(1), api.OK)
	checkErrno(t, "P2: Add to the other", b.Add(0, "b"), api.OK)
	checkErrno(t, "P12: Add", a.Add(0, "x"), api.ErrDevice)
	b.Crash(0, "")
	checkHolds(t, a, "lastloose", "other")
	checkHolds(t, b, "", "")
}

// modelDevice tells P11 and P12 a second time: an area is two texts, one that lasts and one that does not.
type modelDevice struct {
	lasting, loose [2]string
	turns          []api.Errno // what the next ones are, behind them all are OK
	engine         *modelEngine
}

func (m *modelDevice) turn(area int) api.Errno {
	if area != 0 && area != 1 {
		return api.ErrArea
	}
	if len(m.turns) == 0 {
		return api.OK
	}
	e := m.turns[0]
	m.turns = m.turns[1:]
	return e
}

func (m *modelDevice) add(area int, s string) api.Errno {
	if e := m.turn(area); e != api.OK {
		return e
	}
	if len(m.lasting[area]+m.loose[area]+s) > 1500 {
		return api.ErrFull
	}
	m.loose[area] += s
	return api.OK
}

func (m *modelDevice) clear(area int) api.Errno {
	e := m.turn(area)
	if e == api.OK {
		m.lasting[area], m.loose[area] = "", ""
	}
	return e
}

func (m *modelDevice) sync(area int) api.Errno {
	e := m.turn(area)
	if e == api.OK {
		m.lasting[area], m.loose[area] = m.lasting[area]+m.loose[area], ""
	}
	return e
}

func (m *modelDevice) read(area int) (string, api.Errno) {
	if e := m.turn(area); e != api.OK {
		return "", e
	}
	return m.lasting[area] + m.loose[area], api.OK
}

func (m *modelDevice) trouble(k int) api.Errno {
	if k < 0 {
		return api.ErrArg
	}
	m.turns = make([]api.Errno, k)
	if k > 0 {
		m.turns[k-1] = api.ErrDevice
	}
	return api.OK
}

func (m *modelDevice) crash(keep int, junk string) {
	for i, loose := range m.loose {
		for at, b := range []byte(loose) {
			switch {
			case at < keep:
				m.lasting[i] += string([]byte{b})
			case at-max(keep, 0) < len(junk):
				m.lasting[i] += junk[at-max(keep, 0):][:1]
			}
		}
		m.loose[i] = ""
	}
	m.turns = nil
	m.endEngine()
}

func TestDeviceAsTheModel(t *testing.T) {
	random := rand.New(rand.NewSource(7))
	for range 300 {
		d, m := crib.NewDevice(), &modelDevice{}
		for range 200 {
			area := random.Intn(2)
			if random.Intn(10) == 0 {
				area = random.Intn(5) - 2
			}
			k := random.Intn(12) - 2
			s := strings.Repeat(string(rune('a'+random.Intn(26))), random.Intn(12)*random.Intn(12))
			switch random.Intn(12) {
			case 0:
				checkErrno(t, "P12: Trouble", d.Trouble(k), m.trouble(k))
			case 1:
				d.Crash(k, s)
				m.crash(k, s)
			case 2:
				checkErrno(t, "P11: Clear", d.Clear(area), m.clear(area))
			case 3, 4:
				checkErrno(t, "P11: Sync", d.Sync(area), m.sync(area))
			case 5, 6:
				s, e := d.Read(area)
				if want, wantE := m.read(area); s != want || e != wantE {
					t.Fatalf("P11: Read(%d) = %q, %d, want %q, %d", area, s, e, want, wantE)
				}
			default:
				checkErrno(t, "P11: Add", d.Add(area, s), m.add(area, s))
			}
		}
	}
}
