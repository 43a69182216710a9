package crib_test

import (
	"math/rand"
	"testing"

	"crib/api"
	"crib/crib"
)

func TestTranslateOfNoBlock(t *testing.T) {
	for _, words := range noBlocks {
		if got, e := crib.Translate(bytes(words)); got != "" || e != api.ErrBlock {
			t.Errorf("P8: Translate(%s) = %x, %d, want nothing, ErrBlock", words, got, e)
		}
	}
}

func TestTranslateGivesTheOwnPlan(t *testing.T) {
	for _, c := range []struct{ words, want string }{
		{loopHead, loopPlan},
		{"09000000", ""},
		{"00000000", ""},
		{"01800000", ""},
		{"ffffffff", ""},

		// each word's put: fields that it does not use are left out
		{"017fffff", "0107000000000fff"},
		{"0212389a", "0201020300000000"},
		{"03123000", "0301020300000000"},
		{"04123000", "0401020300000000"},
		{"05123000", "0501020300000000"},
		{"06120fff", "0601020000000fff"},
		{"0612f005", "0601020000000005"},
		{"02123000 06450007 0a100000", "0201020300000000 0604050000000007"},

		// ops of known registers
		{"01100005 02211000", "0101000000000005 010200000000000a"},
		{"01100003 01200005 03312000", "0101000000000003 0102000000000005 01030000fffffffe"},
		{"01100fff 05111000 05111000", "0101000005ffc001"},
		{"01100003 01200005 04312000", "0101000000000003 0102000000000005 0103000000000006"},
		{"01100003 02111000 02111000", "010100000000000c"},
		{"01100003 02112000", "0101000000000003 0201010200000000"},
		{"01100003 02121000", "0101000000000003 0201020100000000"},
		{"01100003 06110000", "0101000000000003 0601010000000000"}, // a load is never known
		{"01100003 06110000 02211000", "0101000000000003 0601010000000000 0202010100000000"},
		{"01100003 02110000 02211000", "0101000000000003 0201010000000000 0202010100000000"},
		{"02100000 01100003 02211000", "0101000000000003 0102000000000006"},
		{"03111000", "0301010100000000"}, // unknown, so not 0
		{"01100003 02110000 01100004 02211000", "0101000000000004 0102000000000008"},

		// puts that are not needed
		{"01100005 01100006", "0101000000000006"},
		{"02123000 02123000", "0201020300000000"},
		{"02111000 02111000", "0201010100000000 0201010100000000"},
		{"06110005 01100003", "0101000000000003"},
		{"06120005 06130005", "0601030000000005"},
		{"06120005 06110005", "0601020000000005 0601010000000005"},
		{"02112000 02341000 01100007", "0201010200000000 0203040100000000 0101000000000007"},
		{"02112000 02314000 01100007", "0201010200000000 0203010400000000 0101000000000007"},
		{"02112000 02341000 01100007 01300001", "0101000000000007 0103000000000001"}, // not needed once what reads it is gone
		{"02012000 01000003 02100000", "0100000000000003 0101000000000006"},
		{"02012000 01000003 01100004", "0100000000000003 0101000000000004"}, // a Set reads no slot
		{"02012000 06130000 01000007", "0601030000000000 0100000000000007"}, // a Load reads one
		{"01000001 01100001 01200001 01300001 01400001 01500001 01600001 01700001",
			"0100000000000001 0101000000000001 0102000000000001 0103000000000001 0104000000000001 0105000000000001 0106000000000001 0107000000000001"},
	} {
		got, e := crib.Translate(bytes(c.words))
		if e != api.OK || got != bytes(c.want) {
			t.Errorf("P8: Translate(%s) = %x, %d, want %s, OK", c.words, got, e, c.want)
		}
		checkTranslate(t, bytes(c.words))
	}
}

// checkTranslate holds Translate against its model, and its plan against the block (P20).
func checkTranslate(t *testing.T, words string) {
	t.Helper()
	want, wantErr := modelTranslate(words)
	got, e := crib.Translate(words)
	if got != want || e != wantErr {
		t.Fatalf("P8: Translate(%x) = %x, %d, want %x, %d", words, got, e, want, wantErr)
	}
	if e != api.OK {
		return
	}
	if e := crib.Accept(words, got); e != api.OK {
		t.Fatalf("P20: Accept(%x, %x) = %d: it is the plan of Translate", words, got, e)
	}
	if plain := len(modelWordPuts(modelWords(words))); len(got) > plain*api.PutLen {
		t.Fatalf("P20: Translate(%x) = %x: more puts than plain words", words, got)
	}
}

func TestTranslateAsTheModel(t *testing.T) {
	random := rand.New(rand.NewSource(7))
	for range 30000 {
		words := randomBlock(random)
		checkTranslate(t, words)
		if plan, e := crib.Translate(words); e == api.OK {
			checkDoesTheSame(t, words, plan, randomState(random))
		}
	}
}
