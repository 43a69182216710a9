package block

import (
	"testing"

	"crib/api"
)

func TestWordsAreTheSameByTheirText(t *testing.T) {
	var mem [api.Size]int
	copy(mem[:], []int{0x01100005, 0x01100006, 0, 0x01100005, 0x01100006, 0, 0x01100005})
	a, b, c := At(mem, 0), At(mem, 3), At(mem, 6)
	if a != b || a == c {
		t.Errorf("the blocks %v, %v are the same, %v is another", a, b, c)
	}
	for _, w := range []Words{a, b, c} {
		if got, ok := Read(w.Text()); !ok || got != w {
			t.Errorf("Read(%x) = %v, %v, want %v", w.Text(), got, ok, w)
		}
	}
	if w, ok := Read("\x09\x00\x00\x00\x00\x00\x00\x00"); ok || w != (Words{}) {
		t.Errorf("Read of no block = %v, %v", w, ok)
	}
}

func TestPlain(t *testing.T) {
	for _, c := range []struct {
		text string
		want int
	}{
		{"\x01\x10\x00\x05", 1},
		{"\x01\x10\x00\x05\x00\x00\x00\x00", 1},
		{"\x00\x00\x00\x00", 0},
	} {
		w, _ := Read(c.text)
		if got := w.Plain(); len(got) != c.want {
			t.Errorf("Plain of %x = %v, want %d", c.text, got, c.want)
		}
	}
}
