package crib_test

import (
	"hash/crc32"
	"math/rand"
	"reflect"
	"slices"
	"strings"
	"testing"

	"crib/api"
	"crib/crib"
)

func TestSum(t *testing.T) {
	for _, c := range []struct {
		s    string
		want int
	}{
		{"", 0},
		{"123456789", 0xcbf43926},
		{"a", 0xe8b7be43},
		{"\x00", 0xd202ef8d},
		{"\xff", 0xff000000},
		{"\xff\xff\xff\xff", top},
		{"\x00\x00\x00\x00", 0x2144df1c},
	} {
		if got := crib.Sum(c.s); got != c.want {
			t.Errorf("P9: Sum(%x) = %x, want %x", c.s, got, c.want)
		}
	}
	random := rand.New(rand.NewSource(5))
	for n := range 1200 {
		b := make([]byte, n)
		random.Read(b)
		if got, want := crib.Sum(string(b)), int(crc32.ChecksumIEEE(b)); got != want {
			t.Fatalf("P9: Sum(%x) = %x, want %x", b, got, want)
		}
	}
}

func TestSeal(t *testing.T) {
	for _, c := range []struct {
		kind          int
		payload, want string
	}{
		{api.Open, "00000001", "63010004000000011fb6e5d3"},
		{api.Whole, "", "630300000a9139a8"},
		{api.Entry, "04" + loopHead + loopPlan, "63020021 04 01100005022110000110000607210000 010200000000000a0101000000000006 8a5b6e09"},
	} {
		if got, e := crib.Seal(c.kind, bytes(c.payload)); got != bytes(c.want) || e != api.OK {
			t.Errorf("P9: Seal(%d, %s) = %x, %d, want %s, OK", c.kind, c.payload, got, e, c.want)
		}
	}
	// What a payload of a kind must be is not asked here.
	for kind := 1; kind <= 3; kind++ {
		for _, n := range []int{0, 1, 4, 199, 200} {
			payload := strings.Repeat("\xfe", n)
			if got, e := crib.Seal(kind, payload); got != frameOf(kind, payload) || e != api.OK {
				t.Errorf("P9: Seal(%d, %d bytes) = %x, %d", kind, n, got, e)
			}
		}
	}
}

func TestSealOfWhatMayNotBe(t *testing.T) {
	for _, kind := range []int{-1 << 63, -1, 0, 4, 257, 1<<32 + 1, 1<<63 - 1} {
		if got, e := crib.Seal(kind, "abcd"); got != "" || e != api.ErrArg {
			t.Errorf("P9: Seal(%d, ..) = %x, %d, want ErrArg", kind, got, e)
		}
	}
	for _, n := range []int{201, 256, 65536, 65540, 1 << 20} {
		for kind := 0; kind <= 4; kind++ {
			if got, e := crib.Seal(kind, strings.Repeat("x", n)); got != "" || e != api.ErrArg {
				t.Errorf("P9: Seal(%d, %d bytes) = %x, %d, want ErrArg", kind, n, got, e)
			}
		}
	}
}

func checkScan(t *testing.T, s string, want api.Area) {
	t.Helper()
	got := crib.Scan(s)
	if got.Generation != want.Generation || got.Whole != want.Whole || got.Good != want.Good || !slices.Equal(got.List, want.List) {
		t.Errorf("P10: Scan(%x) = %#v, want %#v", s, got, want)
	}
}

// loopKnown is the first block of the loop with its plan, jumpKnown its second.
var (
	loopKnown = api.Known{Words: bytes(loopHead), Plan: bytes(loopPlan)}
	jumpKnown = api.Known{Words: bytes("09000000")}
	loopEntry = entryFrame(loopKnown.Words, loopKnown.Plan, 0)
	jumpEntry = entryFrame(jumpKnown.Words, "", 0)
)

func TestScan(t *testing.T) {
	open := openFrame(1)
	both := []api.Known{loopKnown, jumpKnown}
	for _, c := range []struct {
		s    string
		want api.Area
	}{
		{open, api.Area{Generation: 1, Good: 12}},
		{openFrame(top), api.Area{Generation: top, Good: 12}},
		{openFrame(0x12345678), api.Area{Generation: 0x12345678, Good: 12}},
		{open + wholeFrame, api.Area{Generation: 1, Whole: true, Good: 20}},
		{open + loopEntry + wholeFrame + "x", api.Area{Generation: 1, Whole: true, Good: 61, List: both[:1]}},
		{open + loopEntry + jumpEntry, api.Area{Generation: 1, Good: 66, List: both}},
		{open + wholeFrame + loopEntry + jumpEntry, api.Area{Generation: 1, Whole: true, Good: 74, List: both}},
		{open + loopEntry + wholeFrame + jumpEntry, api.Area{Generation: 1, Whole: true, Good: 74, List: both}},
		{open + jumpEntry + loopEntry + jumpEntry, api.Area{Generation: 1, Good: 79, List: []api.Known{jumpKnown, loopKnown, jumpKnown}}},
		{open + loopEntry + open + jumpEntry + wholeFrame, api.Area{Generation: 1, Good: 53, List: both[:1]}},
		{open + wholeFrame + loopEntry + wholeFrame + jumpEntry, api.Area{Generation: 1, Whole: true, Good: 61, List: both[:1]}},
		{open + wholeFrame + wholeFrame, api.Area{Generation: 1, Whole: true, Good: 20}},
		{open + "x" + wholeFrame, api.Area{Generation: 1, Good: 12}},
	} {
		checkScan(t, c.s, c.want)
	}
}

func TestScanOfEntries(t *testing.T) {
	set := 0x01100005
	for n := 1; n <= 8; n++ {
		for _, words := range []string{text(slices.Repeat([]int{set}, n)...), text(append(slices.Repeat([]int{set}, n-1), top)...)} {
			for _, plan := range []string{"", "x", bytes(loopPlan), strings.Repeat("c", 199-len(words))} {
				frame := entryFrame(words, plan, 0)
				checkScan(t, openFrame(1)+frame+wholeFrame, api.Area{
					Generation: 1, Whole: true, Good: 20 + len(frame), List: []api.Known{{Words: words, Plan: plan}},
				})
			}
		}
	}
	// A count that is less than there are words: the others are of the plan.
	checkScan(t, openFrame(1)+entryFrame(text(set, set), "x", -1), api.Area{
		Generation: 1, Good: 30, List: []api.Known{{Words: text(set), Plan: text(set) + "x"}},
	})
}

func TestScanEndsAtWhatIsNoFrame(t *testing.T) {
	set, add, jump := 0x01100005, 0x02211000, 0x09000000
	for _, frame := range []string{
		"", "c", wholeFrame[:7], wholeFrame[1:], "d" + wholeFrame[1:],
		loopEntry[:len(loopEntry)-1], jumpEntry[1:], "C" + jumpEntry[1:],
		frameOf(0, ""), frameOf(4, ""), frameOf(255, ""), frameOf(0, jumpEntry[4:9]),
		openFrame(1), openFrame(2), frameOf(api.Open, ""),
		frameOf(api.Whole, "x"), frameOf(api.Whole, text(1)), frameOf(api.Whole, jumpEntry[4:9]),
		frameOf(api.Entry, ""), frameOf(api.Entry, "\x00"), frameOf(api.Entry, "\x00"+text(jump)), frameOf(api.Entry, "\x01"), frameOf(api.Entry, "\x01\x09\x00\x00"),
		entryFrame(text(set, add), "", 1), entryFrame(text(set, add), "abc", 1), entryFrame(text(set, add), bytes(loopPlan), 100),
		entryFrame(text(jump, jump), "", 0), entryFrame(text(set, jump, set), bytes(loopPlan), 0), entryFrame(text(set, jump), text(set), 1),
		entryFrame(text(slices.Repeat([]int{set}, 9)...), "", 0), frameOf(api.Entry, "\xff"+strings.Repeat(text(set), 40)),
		entryFrame(text(set), strings.Repeat("x", 196), 0), entryFrame(text(set), strings.Repeat("x", 60000), 0),
	} {
		checkScan(t, openFrame(3)+frame+wholeFrame[:len(wholeFrame)-1], api.Area{Generation: 3, Good: 12})
		if frame != "" {
			checkScan(t, openFrame(3)+jumpEntry+frame+wholeFrame, api.Area{Generation: 3, Good: 25, List: []api.Known{jumpKnown}})
		}
	}
}

func TestScanOfEveryBitTurned(t *testing.T) {
	s := openFrame(1) + loopEntry + wholeFrame
	for i := range len(s) {
		for bit := range 8 {
			turned := s[:i] + string([]byte{s[i] ^ 1<<bit}) + s[i+1:]
			want := api.Area{Generation: 1, Good: 12}
			if i < 12 {
				want = api.Area{}
			}
			if i >= 53 {
				want = api.Area{Generation: 1, Good: 53, List: []api.Known{loopKnown}}
			}
			checkScan(t, turned, want)
		}
	}
}

func TestScanWithoutOpen(t *testing.T) {
	for _, s := range []string{
		"", "c", "x" + openFrame(1), openFrame(1)[:11], openFrame(1)[1:], wholeFrame, wholeFrame + openFrame(1), loopEntry, jumpEntry + openFrame(1) + wholeFrame,
		openFrame(0), openFrame(0) + openFrame(1), openFrame(0) + wholeFrame,
		frameOf(api.Open, ""), frameOf(api.Open, "\x01"), frameOf(api.Open, "\x00\x00\x01"), frameOf(api.Open, text(0, 1)), frameOf(api.Open, text(1)+"\x00"),
		frameOf(api.Entry, text(1)), frameOf(api.Whole, text(1)), frameOf(0, text(1)), frameOf(4, text(1)),
	} {
		if got := crib.Scan(s + wholeFrame); !reflect.DeepEqual(got, api.Area{}) {
			t.Errorf("P10: Scan(%x) = %v, want all 0", s, got)
		}
	}
}

func TestScanOfALongText(t *testing.T) {
	s := openFrame(1) + strings.Repeat(jumpEntry, 20000)
	checkScan(t, s+"c", api.Area{Generation: 1, Good: len(s), List: slices.Repeat([]api.Known{jumpKnown}, 20000)})
}

func TestListOfScanIsNewMemory(t *testing.T) {
	s := openFrame(1) + strings.Repeat(jumpEntry, 5)
	a := crib.Scan(s).List
	for i := range a[:cap(a)] {
		a[:cap(a)][i] = loopKnown
	}
	if b := crib.Scan(s).List; !slices.Equal(b, slices.Repeat([]api.Known{jumpKnown}, 5)) {
		t.Errorf("P2: Scan hangs on what was written into another list: %x", b)
	}
}

// randomArea gives frames in an order that is often a good one, with a wrong byte now and then.
func randomArea(random *rand.Rand) string {
	s := ""
	if random.Intn(16) > 0 {
		s = openFrame(random.Intn(3))
	}
	for range random.Intn(6) {
		switch random.Intn(8) {
		case 0:
			s += wholeFrame
		case 1:
			s += frameOf(random.Intn(4), jumpEntry[4:9][:random.Intn(6)])
		case 2:
			s += entryFrame(randomBlock(random), randomPlan(random), random.Intn(3)-1)
		default:
			s += entryFrame(randomBlock(random), strings.Repeat("c", random.Intn(200)), 0)
		}
	}
	if b := []byte(s); random.Intn(4) == 0 && len(b) > 0 {
		b[random.Intn(len(b))] ^= byte(random.Intn(256))
		s = string(b[:random.Intn(len(b)+1)])
	}
	return s
}

func TestScanAsTheModel(t *testing.T) {
	random := rand.New(rand.NewSource(6))
	for range 20000 {
		s := randomArea(random)
		checkScan(t, s, modelScan(s))
	}
}

func FuzzScan(f *testing.F) {
	for _, s := range []string{"", openFrame(1) + loopEntry + wholeFrame + jumpEntry, openFrame(top) + wholeFrame + "c"} {
		f.Add(s, 0, "")
	}
	f.Fuzz(func(t *testing.T, s string, kind int, payload string) {
		checkScan(t, s, modelScan(s))
		sealed, e := crib.Seal(kind, payload)
		if e != api.OK {
			return
		}
		for _, s := range []string{sealed + s, openFrame(1) + sealed + s, openFrame(1) + jumpEntry + wholeFrame + sealed + s} {
			checkScan(t, s, modelScan(s))
		}
	})
}
