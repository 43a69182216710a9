package number

import "testing"

func TestAppendAndRead(t *testing.T) {
	for _, c := range []struct {
		v, k int
		want string
	}{
		{0, 0, ""},
		{0, 1, "\x00"},
		{255, 1, "\xff"},
		{258, 2, "\x01\x02"},
		{1, 4, "\x00\x00\x00\x01"},
		{0x12345678, 4, "\x12\x34\x56\x78"},
		{1<<32 - 1, 4, "\xff\xff\xff\xff"},
	} {
		if got := string(Append([]byte("ab"), c.v, c.k)); got != "ab"+c.want {
			t.Errorf("Append(ab, %d, %d) = %x", c.v, c.k, got)
		}
		if got := Read(c.want); got != c.v {
			t.Errorf("Read(%x) = %d, want %d", c.want, got, c.v)
		}
	}
}
