package crib_test

import (
	"math/rand"
	"testing"

	"crib/api"
	"crib/crib"
)

const (
	loopHead = "01100005 02211000 01100006 07210000"
	loopPlan = "010200000000000a 0101000000000006"
)

func checkBlock(t *testing.T, mem [api.Size]int, pc int, want string) {
	t.Helper()
	if got, e := crib.Block(mem, pc); e != api.OK || got != want {
		t.Errorf("P5: Block(.., %d) = %x, %d, want %x, OK", pc, got, e, want)
	}
}

func TestBlockEndsAtWhatIsNotPlain(t *testing.T) {
	var mem [api.Size]int
	copy(mem[:], []int{0x01100005, 0x02211000, 0x01100006, 0x07210000, 0x09000000})
	checkBlock(t, mem, 0, bytes(loopHead))
	checkBlock(t, mem, 2, bytes("01100006 07210000"))
	checkBlock(t, mem, 3, bytes("07210000"))
	checkBlock(t, mem, 4, bytes("09000000"))
	checkBlock(t, mem, 5, bytes("00000000"))
	for i := range mem {
		mem[i] = 0x01100005
	}
	for _, word := range []int{
		0x00000000, 0x00ffffff, 0x07000000, 0x08000000, 0x09000000, 0x0a000000, 0x0b000000, 0xffffffff,
		0x01800000, 0x02800000, 0x02080000, 0x02008000, 0x03008000, 0x04080000, 0x05800000, 0x06800000, 0x06080000,
	} {
		mem[52] = word
		checkBlock(t, mem, 50, text(0x01100005, 0x01100005, word))
		checkBlock(t, mem, 52, text(word))
	}
	for _, word := range []int{0x017fffff, 0x02777fff, 0x03777fff, 0x04777fff, 0x05777fff, 0x0677ffff} {
		mem[52], mem[53] = word, 0x09000000
		checkBlock(t, mem, 52, text(word, 0x09000000))
	}
}

func TestBlockIsNotTooLong(t *testing.T) {
	var mem [api.Size]int
	for i := range mem {
		mem[i] = 0x01000000 + i
	}
	checkBlock(t, mem, 0, text(mem[:8]...))
	checkBlock(t, mem, 119, text(mem[119:127]...))
	for pc := 120; pc < api.Size; pc++ {
		checkBlock(t, mem, pc, text(mem[pc:]...))
	}
	mem[27] = 0
	checkBlock(t, mem, 20, text(mem[20:28]...))
	checkBlock(t, mem, 19, text(mem[19:27]...))
	mem[127] = 0x07210000
	checkBlock(t, mem, 126, text(mem[126:]...))
}

func TestBlockOfNoState(t *testing.T) {
	for _, v := range []int{-1, 1 << 32, -1 << 63, 1<<63 - 1} {
		for _, at := range []int{0, 5, 127} {
			var mem [api.Size]int
			mem[at] = v
			if got, e := crib.Block(mem, 5); got != "" || e != api.ErrState {
				t.Errorf("P5: Block with the word %d at %d = %x, %d, want ErrState", v, at, got, e)
			}
		}
	}
	for _, pc := range []int{-1, 128, -1 << 63, 1<<63 - 1} {
		if got, e := crib.Block([api.Size]int{}, pc); got != "" || e != api.ErrState {
			t.Errorf("P5: Block(.., %d) = %x, %d, want ErrState", pc, got, e)
		}
	}
}

// randomWord gives a word that is plain more often than not, over few registers and numbers, so that they meet.
func randomWord(random *rand.Rand) int {
	op := 1 + random.Intn(6)
	fields := random.Intn(1<<24) & 0x333083
	switch random.Intn(24) {
	case 0:
		op = random.Intn(256)
	case 1:
		fields = random.Intn(1 << 24)
	}
	return op<<24 | fields
}

func TestBlockAsTheModel(t *testing.T) {
	random := rand.New(rand.NewSource(3))
	for range 200 {
		var mem [api.Size]int
		for i := range mem {
			mem[i] = randomWord(random)
		}
		for pc := range mem {
			checkBlock(t, mem, pc, modelBlock(mem, pc))
		}
	}
}
