package crib_test

import (
	"slices"
	"strings"
	"testing"

	"crib/api"
	"crib/crib"
)

func halts(n int) string { return strings.Repeat("halt\n", n) }

func TestAssembleWords(t *testing.T) {
	for _, c := range []struct {
		text string
		want []int
	}{
		{"", nil},
		{"\n\n", nil},
		{"; set r1 5", nil},
		{" \t ;;; \x00 \u00e9", nil},
		{"jump end ; there\nüber: set r1 9\nend: same r1 r2 über", []int{0x09000002, 0x01100009, 0x08120001}},
		{"set r1 5\nadd r2 r1 r1\nset r1 6\nstore r2 r1 0\njump 0", []int{0x01100005, 0x02211000, 0x01100006, 0x07210000, 0x09000000}},
		{"halt", []int{0}},
		{"set r7 4095", []int{0x01700fff}},
		{"add r1 r2 r3\nsub r4 r5 r6\nxor r7 r0 r1\nmul r2 r3 r4", []int{0x02123000, 0x03456000, 0x04701000, 0x05234000}},
		{"load r1 r2 3\nstore r4 r5 6\nsame r7 r0 1", []int{0x06120003, 0x07450006, 0x08700001}},
		{"jump 4095\nturn r7", []int{0x09000fff, 0x0a700000}},
		{"word 0\nword 4294967295\nword 16777216", []int{0, 0xffffffff, 0x01000000}},
		{"set r0 0000004095\nword 0000000000", []int{0x01000fff, 0}},
		{"\t set\t\tr1 \t5\t;\n", []int{0x01100005}},
		{"set r1 5;comment", []int{0x01100005}},
		{"a:;\nhalt;", []int{0}},
	} {
		checkWords(t, c.text, c.want)
	}
}

func TestAssembleLabels(t *testing.T) {
	for _, c := range []struct {
		text string
		want []int
	}{
		{"a: jump a", []int{0x09000000}},
		{"halt\na:\n\n ; x\nb:\tset r1 a\nload r1 r2 b\nstore r1 r2 a\nsame r1 r2 b\nword a", []int{0, 0x01100001, 0x06120001, 0x07120001, 0x08120001, 1}},
		{"word end\nhalt\nend:", []int{2, 0}},
		{"jump end\n" + halts(127) + "end: ; the place 128 is no word's", append([]int{0x09000080}, make([]int, 127)...)},
		{"abcdefghijkl: jump abcdefghijkl", []int{0x09000000}},
		{"éééééééééééé: jump éééééééééééé", []int{0x09000000}},
		{"halt\n_9azAZ: jump _9azAZ", []int{0, 0x09000001}},
		{"halt\nr8: set r1 r8", []int{0, 0x01100001}},
		{"halt\nR1: set r1 R1", []int{0, 0x01100001}},
		{"halt\nHalt: jump Halt", []int{0, 0x09000001}},
		{"halt\nr: jump r\nn: jump n\nv: word v\nr01: jump r01", []int{0, 0x09000001, 0x09000002, 3, 0x09000004}},
		{"halt\n\u0080: jump \u0080\n\U0010ffff: jump \U0010ffff", []int{0, 0x09000001, 0x09000002}},
		{"halt\n\ufffd: jump \ufffd\n\u00a0: jump \u00a0", []int{0, 0x09000001, 0x09000002}},
	} {
		checkWords(t, c.text, c.want)
	}
	// Labels that differ in anything are different ones.
	checkWords(t, "a: halt\nA: halt\n\u00e9: halt\ne\u0301: word \u00e9\nword e\u0301\nword A", []int{0, 0, 0, 2, 3, 1})
}

func TestAssembleBounds(t *testing.T) {
	checkWords(t, strings.Repeat(" ", api.MaxText), nil)
	checkWords(t, "; "+strings.Repeat("é", api.MaxText/2-1), nil)
	checkWords(t, halts(128), make([]int, 128))
	checkFault(t, strings.Repeat(" ", api.MaxText+1), 0, 0, api.ErrLong)
	checkFault(t, strings.Repeat("\xff", api.MaxText+1), 0, 0, api.ErrLong)
	checkFault(t, "nop\n"+strings.Repeat("é", api.MaxText/2), 0, 0, api.ErrLong)
}

func TestAssembleNoCharacters(t *testing.T) {
	for _, c := range []struct {
		text         string
		line, column int
	}{
		{"\xff", 1, 1},
		{"ü;\xff", 1, 3},
		{"halt\n\n;é\ufffd\x80", 3, 4},
		{"halt\xc3", 1, 5},
		{"\xe2\x82", 1, 1},
		{"a\xe2\x82a", 1, 2},
		{"\xc0\xaf", 1, 1},
		{"\xed\xa0\x80", 1, 1},
		{"\xf4\x90\x80\x80", 1, 1},
		{"\xf0\x9f\x98\x80\xf0\x9f\x98", 1, 2},
		{"\ufffd\xef\xbf", 1, 2},
		{"nop\nnop\n\x80", 3, 1},            // told ahead of what is wrong in lines
		{"a:\na:\njump b\n" + "\xfe", 4, 1}, // and of labels
	} {
		checkFault(t, c.text, c.line, c.column, api.ErrText)
	}
}

func TestAssembleWrongTokens(t *testing.T) {
	for _, c := range []struct {
		text         string
		line, column int
	}{
		{"nop", 1, 1},
		{"\n\t Halt", 2, 3},
		{"5", 1, 1},
		{"r1", 1, 1},
		{"halt\r\n", 1, 1},
		{"halt\u00a0", 1, 1},
		{"halt\x00", 1, 1},
		{"halt halt", 1, 6},
		{"halt 0", 1, 6},
		{"é: turn r1 r2", 1, 12},
		{"add r1 r2 r3 r4", 1, 14},
		{"jump 1 2 3", 1, 8},
		{"set r8 5", 1, 5},
		{"set r 5", 1, 5},
		{"set R1 5", 1, 5},
		{"set r01 5", 1, 5},
		{"set 1 5", 1, 5},
		{"set r8", 1, 5}, // ahead of the part that it lacks
		{"add r1 r2 5", 1, 11},
		{"add r1, r2, r3", 1, 5},
		{"set r1 r2", 1, 8},
		{"set r1 set", 1, 8},
		{"set r1 word", 1, 8},
		{"set r1 4096", 1, 8},
		{"set r1 00000000001", 1, 8},
		{"word 4294967296", 1, 6},
		{"word 9999999999", 1, 6},
		{"word 18446744073709551616", 1, 6},
		{"word r7", 1, 6},
		{"jump -1", 1, 6},
		{"jump +1", 1, 6},
		{"jump 0x1", 1, 6},
		{"jump 1a", 1, 6},
		{"jump ٣a:", 1, 6},
		{"jump a:", 1, 6},
		{"jump a-b", 1, 6},
		{"jump abcdefghijklm", 1, 6},
		{"jump ééééééééééééé", 1, 6},
		{"jump 1é", 1, 6},
	} {
		checkFault(t, c.text, c.line, c.column, api.ErrLine)
	}
}

func TestAssembleWrongLabels(t *testing.T) {
	for _, c := range []struct {
		text         string
		line, column int
	}{
		{":", 1, 1},
		{"a : halt", 1, 1},
		{"a:halt", 1, 1},
		{"a:: halt", 1, 1},
		{"9: halt", 1, 1},
		{"a-b: halt", 1, 1},
		{"r0: halt", 1, 1},
		{"r7: halt", 1, 1},
		{"abcdefghijklm: halt", 1, 1},
		{"ééééééééééééé: halt", 1, 1},
		{"a: b: halt", 1, 4},
		{"halt a:", 1, 6},
		{" \x7f: halt", 1, 2},
	} {
		checkFault(t, c.text, c.line, c.column, api.ErrLine)
	}
	for _, name := range strings.Fields("halt set add sub xor mul load store same jump turn word") {
		checkFault(t, name+": halt", 1, 1, api.ErrLine)
		checkFault(t, "jump "+name, 1, 6, api.ErrLine)
	}
}

func TestAssembleLackingParts(t *testing.T) {
	for _, c := range []struct {
		text         string
		line, column int
	}{
		{"set r1", 1, 7},
		{"set r1 \t ", 1, 7},
		{"set r1;5", 1, 7},
		{"set", 1, 4},
		{"\n  add r1 r2 ; r3", 2, 12},
		{"ü: jump\nhalt", 1, 8},
		{"é: set r1", 1, 10},
		{"store r1 r2", 1, 12},
		{"turn", 1, 5},
		{"word", 1, 5},
	} {
		checkFault(t, c.text, c.line, c.column, api.ErrLine)
	}
}

func TestAssembleLabelTwice(t *testing.T) {
	checkFault(t, "a: halt\n\n a: halt", 3, 2, api.ErrTwice)
	checkFault(t, "a:\na: nop", 2, 1, api.ErrTwice)
	checkFault(t, "é:\nb:\n\té: set r1", 3, 2, api.ErrTwice)
	checkFault(t, "a: jump x\na:", 2, 1, api.ErrTwice)
	checkFault(t, "a: nop\na:", 1, 4, api.ErrLine)
	checkFault(t, halts(128)+"a:\na: halt", 130, 1, api.ErrTwice)
}

func TestAssembleTooManyWords(t *testing.T) {
	checkFault(t, halts(128)+"halt", 129, 1, api.ErrMany)
	checkFault(t, halts(128)+" x: set r1 5", 129, 5, api.ErrMany)
	checkFault(t, halts(128)+"word 1\nnop", 129, 1, api.ErrMany)
	checkFault(t, halts(128)+"jump nowhere", 129, 1, api.ErrMany)
	checkFault(t, halts(128)+"set r1", 129, 7, api.ErrLine)
	checkFault(t, halts(128)+"set r8 1", 129, 5, api.ErrLine)
	checkFault(t, halts(128)+"halt 1", 129, 6, api.ErrLine)
	checkFault(t, halts(128)+"nop", 129, 1, api.ErrLine)
	checkFault(t, halts(127)+"nop\nhalt\nhalt", 128, 1, api.ErrLine)
}

func TestAssembleNoSuchLabel(t *testing.T) {
	checkFault(t, "jump x", 1, 6, api.ErrName)
	checkFault(t, "é: set r1 é\nset r2 x\njump y", 2, 8, api.ErrName)
	checkFault(t, "halt:\njump x", 1, 1, api.ErrLine)
	checkFault(t, "jump x\nnop", 2, 1, api.ErrLine)
	checkFault(t, "jump x\na:\na:", 3, 1, api.ErrTwice)
	checkFault(t, "jump x\n"+halts(128), 129, 1, api.ErrMany)
	checkFault(t, "word r8", 1, 6, api.ErrName)
	checkFault(t, "x: same r1 r2 X", 1, 15, api.ErrName)
}

func TestAssembleGivesNewMemory(t *testing.T) {
	const text = "a: set r1 5\njump a\nhalt\nword a\nhalt"
	first, _, _ := crib.Assemble(text)
	second, _, _ := crib.Assemble(text)
	want := slices.Clone(second)
	for i := range first {
		first[i] = -1
	}
	for room := cap(first) - len(first); room > 0; room-- {
		first = append(first, -1)
	}
	third, _, _ := crib.Assemble(text)
	if !slices.Equal(second, want) || !slices.Equal(third, want) {
		t.Errorf("P2: behind writing into an answer: %x and %x, want %x", second, third, want)
	}
}

func checkWords(t *testing.T, text string, want []int) {
	t.Helper()
	got, at, e := crib.Assemble(text)
	if e != api.OK || at != (api.Place{}) || !slices.Equal(got, want) {
		t.Errorf("P4: Assemble(%.60q) = %x, %v, %d, want %x", text, got, at, e, want)
	}
}

func checkFault(t *testing.T, text string, line, column int, want api.Errno) {
	t.Helper()
	got, at, e := crib.Assemble(text)
	if e != want || at != (api.Place{Line: line, Column: column}) || got != nil {
		t.Errorf("P4: Assemble(%.60q) = %x, %v, %d, want %d at %d %d", text, got, at, e, want, line, column)
	}
}
