package crib_test

import (
	"math/rand"
	"reflect"
	"regexp"
	"strconv"
	"strings"
	"testing"
	"unicode/utf8"

	"crib/api"
	"crib/crib"
)

// The model is Assemble told a second time, by regular expressions.

var (
	tokenShape  = regexp.MustCompile(`[^ \t]+`)
	nameShape   = regexp.MustCompile(`^[A-Za-z_\x{80}-\x{10ffff}][A-Za-z_0-9\x{80}-\x{10ffff}]{0,11}$`)
	numberShape = regexp.MustCompile(`^[0-9]{1,10}$`)
	takenShape  = regexp.MustCompile(`^(halt|set|add|sub|xor|mul|load|store|same|jump|turn|word|r[0-7])$`)
	modelForms  = strings.Split("halt|set r n|add r r r|sub r r r|xor r r r|mul r r r|load r r n|store r r n|same r r n|jump n|turn r|word v", "|")
)

type modelAnswer struct {
	words []int
	at    api.Place
	e     api.Errno
}

func modelName(s string) bool { return nameShape.MatchString(s) && !takenShape.MatchString(s) }

// modelPart tells whether s may stand for r, n or v, and its number.
func modelPart(kind, s string) (int, bool) {
	if kind == "r" {
		if len(s) == 2 && takenShape.MatchString(s) {
			return int(s[1]) - '0', true
		}
		return 0, false
	}
	most := map[string]int{"n": 4095, "v": 1<<32 - 1}[kind]
	n, _ := strconv.Atoi(s)
	return n, numberShape.MatchString(s) && n <= most || modelName(s)
}

// modelBadByte finds the first byte that begins no character.
func modelBadByte(s string) (api.Place, bool) {
	for n := range len(s) {
		if r, size := utf8.DecodeRuneInString(s[n:]); utf8.ValidString(s[:n]) && r == utf8.RuneError && size == 1 {
			begin := strings.LastIndex(s[:n], "\n") + 1
			return api.Place{Line: strings.Count(s[:n], "\n") + 1, Column: utf8.RuneCountInString(s[begin:n]) + 1}, true
		}
	}
	return api.Place{}, false
}

func modelAssemble(s string) modelAnswer {
	if len(s) > 2000 {
		return modelAnswer{e: api.ErrLong}
	}
	if at, bad := modelBadByte(s); bad {
		return modelAnswer{e: api.ErrText, at: at}
	}
	labels := map[string]int{}
	var uses []func() modelAnswer
	var words []int
	for i, line := range strings.Split(s, "\n") {
		line, _, _ = strings.Cut(line, ";")
		wrong := func(at int, e api.Errno) modelAnswer {
			return modelAnswer{e: e, at: api.Place{Line: i + 1, Column: utf8.RuneCountInString(line[:at]) + 1}}
		}
		l := tokenShape.FindAllStringIndex(line, -1)
		text := func(i int) string { return line[l[i][0]:l[i][1]] }
		if len(l) > 0 && strings.HasSuffix(text(0), ":") && modelName(strings.TrimSuffix(text(0), ":")) {
			name := strings.TrimSuffix(text(0), ":")
			if _, there := labels[name]; there {
				return wrong(l[0][0], api.ErrTwice)
			}
			labels[name] = len(words)
			l = l[1:]
		}
		if len(l) == 0 {
			continue
		}
		word, parts, ok := 0, []string(nil), false
		for op, form := range modelForms {
			if f := strings.Fields(form); f[0] == text(0) {
				word, parts, ok = op%11<<24, f[1:], true
			}
		}
		if !ok {
			return wrong(l[0][0], api.ErrLine)
		}
		for j := 1; j < len(l); j++ {
			if j > len(parts) {
				return wrong(l[j][0], api.ErrLine)
			}
			n, ok := modelPart(parts[j-1], text(j))
			if !ok {
				return wrong(l[j][0], api.ErrLine)
			}
			if parts[j-1] == "r" {
				n <<= 24 - 4*j
			} else if name := text(j); modelName(name) {
				n = 0
				which, answer := len(words), wrong(l[j][0], api.ErrName)
				uses = append(uses, func() modelAnswer {
					if place, there := labels[name]; there {
						words[which] += place
						return modelAnswer{}
					}
					return answer
				})
			}
			word += n
		}
		if len(l) <= len(parts) {
			return wrong(l[len(l)-1][1], api.ErrLine)
		}
		if len(words) == 128 {
			return wrong(l[0][0], api.ErrMany)
		}
		words = append(words, word)
	}
	for _, u := range uses {
		if a := u(); a.e != api.OK {
			return a
		}
	}
	return modelAnswer{words: words}
}

func checkAsModel(t *testing.T, text string) api.Errno {
	t.Helper()
	words, at, e := crib.Assemble(text)
	want := modelAssemble(text)
	same := len(words) == 0 && len(want.words) == 0 || reflect.DeepEqual(words, want.words)
	if !same || at != want.at || e != want.e || e != api.OK && words != nil {
		t.Errorf("P1, P4: Assemble(%q) = %x, %v, %d, the model: %x, %v, %d", text, words, at, e, want.words, want.at, want.e)
	}
	return e
}

// randomLine is mostly a right line: wrong ones are frequent enough all the same, in a text of several.
func randomLine(random *rand.Rand) string {
	pick := func(l ...string) string { return l[random.Intn(len(l))] }
	if random.Intn(25) == 0 {
		return pick("nop", "a : halt", "halt 1", "set r1", "add r1 r2", "jump a:", "r1: halt", "a: b:", ":", "set r8 1", "halt\r", "\xff", ";\xc3", "jump 99999", "word 4294967296", "jump abcdefghijklm", "turn 7", "Halt")
	}
	parts := map[string][]string{
		"r": {"r0", "r3", "r7"},
		"n": {"0", "4095", "0000000001", "17", "a", "b", "é", "r8"},
		"v": {"4294967295", "4096", "0", "a", "日本", "_"},
	}
	line := pick("", "", "", " ", "\t")
	if random.Intn(6) == 0 {
		line += pick("a", "b", "é", "r8", "日本", "_", "\ufffd") + ":" + pick(" ", "\t ", "")
	}
	if line == "" || strings.HasSuffix(line, " ") || strings.HasSuffix(line, "\t") {
		for i, f := range strings.Fields(pick(modelForms...)) {
			if i > 0 {
				f = pick(" ", " ", "\t", "  ") + pick(parts[f]...)
			}
			line += f
		}
	}
	return line + pick("", "", "", " ", " ; x", ";é;")
}

func TestAssembleAsTheModel(t *testing.T) {
	random := rand.New(rand.NewSource(1))
	seen := map[api.Errno]int{}
	for range 20000 {
		var lines []string
		for range random.Intn(12) {
			lines = append(lines, randomLine(random))
		}
		seen[checkAsModel(t, strings.Join(lines, "\n"))]++
	}
	for _, e := range []api.Errno{api.OK, api.ErrText, api.ErrLine, api.ErrTwice, api.ErrName} {
		if seen[e] < 100 {
			t.Errorf("the texts gave the answer %d %d times only", e, seen[e])
		}
	}
}

func TestAssembleOfAnything(t *testing.T) {
	random := rand.New(rand.NewSource(2))
	for range 20000 {
		b := make([]byte, random.Intn(12))
		for i := range b {
			b[i] = byte(random.Intn(256)) & byte(random.Intn(256)|0x7f)
		}
		checkAsModel(t, string(b))
	}
	for range 20000 {
		const marks = " \t\n;:ar18é\x80\xc3"
		b := make([]byte, random.Intn(10))
		for i := range b {
			b[i] = marks[random.Intn(len(marks))]
		}
		checkAsModel(t, string(b))
	}
}

func FuzzAssemble(f *testing.F) {
	f.Add("jump end ; there\nüber: set r1 9\nend: same r1 r2 über")
	f.Add("a:\n\ta: word 4294967295\r")
	f.Fuzz(func(t *testing.T, text string) { checkAsModel(t, text) })
}
