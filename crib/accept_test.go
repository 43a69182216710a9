package crib_test

import (
	"math/rand"
	"strings"
	"testing"

	"crib/api"
	"crib/crib"
)

var noBlocks = []string{
	"", "01", "011000", "0110000500", "01100005 0110",
	"09000000 01100005", "00000000 00000000", "01100005 07210000 01100005", "01800000 01100005", "02008000 00000000",
	strings.Repeat("01100005", 9), strings.Repeat("01100005", 8) + "00000000", strings.Repeat("01100005", 8) + "01",
}

func TestAcceptOfNoBlock(t *testing.T) {
	for _, words := range noBlocks {
		for _, plan := range []string{"", "x", bytes(loopPlan)} { // ErrBlock is told first
			if e := crib.Accept(bytes(words), plan); e != api.ErrBlock {
				t.Errorf("P7: Accept(%s, %x) = %d, want ErrBlock", words, plan, e)
			}
		}
	}
}

func TestAcceptHoldsPlansAgainstWords(t *testing.T) {
	for _, c := range []struct {
		words, plan string
		want        api.Errno
	}{
		{loopHead, loopPlan, api.OK},
		{loopHead, "010f000000000006 07010f0000000000 010200000000000a", api.OK},
		{loopHead, "010f000000000006 07010f0000000000 010200000000000b", api.ErrOther},
		{loopHead, "0101000000000006", api.ErrOther},
		{loopHead, "010200000000000a", api.ErrOther},
		{loopHead, loopPlan + "0103000000000000", api.ErrOther},
		{loopHead, loopPlan + "0108000000000001", api.OK},
		{loopHead, loopPlan + "0707070000000000", api.OK},
		{"09000000", "", api.OK},
		{"07210000", "0107000000000000", api.ErrOther},
		{strings.Repeat("01000001", 8), "0100000000000001", api.OK},
		{strings.Repeat("01000001", 7) + "00000000", "0100000000000001", api.OK},

		// nothing but ops of constants and loads from constants is made shorter
		{"03111000", "0101000000000000", api.ErrOther},
		{"04111000", "0101000000000000", api.ErrOther},
		{"01200000 02112000", "0102000000000000", api.ErrOther},
		{"01200001 05112000", "0102000000000001", api.ErrOther},
		{"01200000 05112000", "0102000000000000 0101000000000000", api.ErrOther},
		{"02112000", "0201020100000000", api.ErrOther}, // no order of its own
		{"02111000 02112000", "0208010200000000 0201010800000000", api.ErrOther},
		{"02112000", "0201010200000000", api.OK},
		{"02112000", "0301010200000000", api.ErrOther},
		{"02112000", "0208010200000000 0701080000000000", api.OK},
		{"02112000 03112000", "", api.ErrOther},

		// ops of constants
		{"01100001 03001000 01100000", "0300080f00000000 0101000000000000", api.ErrOther},
		{"01000000 01100001 03001000", "0101000000000001 01000000ffffffff", api.OK},
		{"01000fff 05000000 05000000", "0100000005ffc001", api.OK},
		{"01000fff 05000000 05000000", "0100000005ffc000", api.ErrOther},
		{"01000fff 05000000 05000000", "0108000000ffe001 0500080800000000", api.OK},
		{"01000005 04000000", "0100000000000000", api.OK},
		{"01000005 04000000", "0700080000000000", api.OK},
		{"01000000", "0200080f00000000", api.OK},

		// loads
		{"06120005", "0601020000000005", api.OK},
		{"06120005", "0601020000000085", api.ErrOther},
		{"06120005", "0601020000000004", api.ErrOther},
		{"06120005", "0601010000000005", api.ErrOther},
		{"01200085 06120000", "0102000000000085 0601080000000005", api.OK},
		{"01200085 06120000", "0102000000000085 0601080000000f85", api.OK},
		{"01200085 06120000", "0102000000000085 0601080000000006", api.ErrOther},
		{"01200085 06120000", "0102000000000085 0601020000000000", api.OK},
		{"01200001 0612007f", "0102000000000001 0601080000000000", api.OK},
		{"01200001 0612007f", "0102000000000001 01080000ffffffff 0601080000000001", api.OK},
		{"01200001 02112000 06110000", "0102000000000001 0601010000000001", api.ErrOther},
		{"06120000 06210000", "0601020000000000 0602010000000000", api.OK},
		{"06120000 06210000", "0601020000000000 0602020000000000", api.ErrOther},

		// a register as it was is no constant and no other register
		{"01100000", "", api.ErrOther},
		{"02120000 03112000", "", api.ErrOther},
		{"09000000", "0701020000000000", api.ErrOther},
		{"09000000", "0708010000000000 0701020000000000 0702080000000000", api.ErrOther},
		{"09000000", "0708010000000000 0101000000000005 0701080000000000", api.OK},
		{"09000000", "0107000000000007", api.ErrOther},
		{"09000000", "0100000000000000", api.ErrOther},
	} {
		if e := crib.Accept(bytes(c.words), bytes(c.plan)); e != c.want {
			t.Errorf("P7: Accept(%s, %s) = %d, want %d", c.words, c.plan, e, c.want)
		}
		if e := modelAccept(bytes(c.words), bytes(c.plan)); e != c.want {
			t.Errorf("the model of Accept(%s, %s) = %d, want %d", c.words, c.plan, e, c.want)
		}
	}
}

func TestAcceptOfEveryRegister(t *testing.T) {
	for r := range api.Regs {
		words := text(0x01000009|r<<20, 0x09000000)
		for d := range api.Slots {
			want := api.ErrOther
			if d == r {
				want = api.OK
			}
			if e := crib.Accept(words, planText(api.Put{Kind: api.Set, D: d, K: 9})); e != want {
				t.Errorf("P7: Accept(%x, slot %d becomes 9) = %d, want %d", words, d, e, want)
			}
		}
	}
}

// Written out, the expression doubles with each word.
func TestAcceptOfGreatExpressions(t *testing.T) {
	words := text(0x05111000, 0x05111000, 0x05111000, 0x05111000, 0x05111000, 0x05111000, 0x05111000, 0x05111000)
	square := api.Put{Kind: api.Mul, D: 1, A: 1, B: 1}
	plan := []api.Put{square, square, square, square, square, square, square, square}
	if e := crib.Accept(words, planText(plan...)); e != api.OK {
		t.Errorf("P7: Accept of eight squares = %d", e)
	}
	if e := crib.Accept(words, planText(plan[1:]...)); e != api.ErrOther {
		t.Errorf("P7: Accept of seven squares for eight = %d", e)
	}
	if e := crib.Accept(words, planText(append(plan, square, square)...)); e != api.ErrOther {
		t.Errorf("P7: Accept of ten squares for eight = %d", e)
	}
}

func randomBlock(random *rand.Rand) string {
	var words []int
	for range 1 + random.Intn(8) {
		words = append(words, randomWord(random))
		if !modelPlain(words[len(words)-1]) && random.Intn(20) > 0 {
			break
		}
	}
	return text(words...)
}

// likelyPlan gives a plan that may well be one of the block: its words' puts, over other slots here and there, with a change or two.
func likelyPlan(random *rand.Rand, words string) string {
	puts := modelWordPuts(modelWords(words))
	if random.Intn(2) == 0 {
		own, _ := modelTranslate(words)
		puts, _ = modelPuts(own)
	}
	for range random.Intn(3) {
		at := random.Intn(len(puts) + 1)
		switch random.Intn(4) {
		case 0:
			puts = append(puts[:at:at], append([]api.Put{randomPut(random)}, puts[at:]...)...)
		case 1:
			if at+1 < len(puts) {
				puts[at], puts[at+1] = puts[at+1], puts[at]
			}
		case 2:
			if at < len(puts) {
				move := api.Put{Kind: api.Move, D: puts[at].D, A: 12}
				puts[at].D = 12
				puts = append(puts[:at+1:at+1], append([]api.Put{move}, puts[at+1:]...)...)
			}
		case 3:
			if at < len(puts) {
				puts[at].K ^= random.Intn(256) & 0x81
			}
		}
	}
	return planText(puts...)
}

func checkAccept(t *testing.T, words, plan string) api.Errno {
	t.Helper()
	got := crib.Accept(words, plan)
	if want := modelAccept(words, plan); got != want {
		t.Fatalf("P7: Accept(%x, %x) = %d, want %d", words, plan, got, want)
	}
	return got
}

// checkDoesTheSame holds what an accepted plan does against the steps of the block's plain words.
func checkDoesTheSame(t *testing.T, words, plan string, s api.State) {
	t.Helper()
	got, e := crib.Do(plan, s.Regs, s.Mem)
	want := s.Regs
	for _, word := range modelWords(words) {
		if modelPlain(word) {
			want = modelDo([]api.Put{modelWordPut(word)}, want, s.Mem)
		}
	}
	if e != api.OK || got != want {
		t.Fatalf("P7: Do(%x) = %v, %d, but the words %x give %v", plan, got, e, words, want)
	}
}

func TestAcceptAsTheModel(t *testing.T) {
	random := rand.New(rand.NewSource(5))
	var count [18]int
	for range 30000 {
		words := randomBlock(random)
		plan := likelyPlan(random, words)
		e := checkAccept(t, words, plan)
		count[e]++
		if e == api.OK {
			checkDoesTheSame(t, words, plan, randomState(random))
		}
		checkAccept(t, words, randomPlan(random))
	}
	for _, e := range []api.Errno{api.OK, api.ErrBlock, api.ErrPlan, api.ErrOther} {
		if count[e] < 100 {
			t.Errorf("only %d of the plans are answered by %d: %v", count[e], e, count)
		}
	}
}

// FuzzAccept holds the calls of P6 to P8 against the models, at any texts.
func FuzzAccept(f *testing.F) {
	f.Add(bytes(loopHead), bytes(loopPlan))
	f.Add(bytes("01200085 06120000"), bytes("0102000000000085 0601080000000005"))
	f.Add("", "x")
	f.Fuzz(func(t *testing.T, words, plan string) {
		e := checkAccept(t, words, plan)
		s := randomState(rand.New(rand.NewSource(6)))
		if e == api.OK {
			checkDoesTheSame(t, words, plan, s)
		}
		checkTranslate(t, words)
		if _, e := crib.Do(plan, s.Regs, s.Mem); e != api.OK && e != api.ErrPlan {
			t.Fatalf("P6: Do(%x) = %d", plan, e)
		}
	})
}
