// Package block: the words of a block, as the memory and as a text has them.
package block

import (
	"crib/api"
	"crib/code"
	"crib/number"
)

// WordLen is the bytes of a word in a text.
const WordLen = 4

// Words are those of a block: the first Len of List. The others are 0, so that blocks are the same just if their Words are, by ==.
type Words struct {
	Len  int
	List [api.MaxBlock]int
}

// Block tells the words of the block at a place of the memory, as a text (P5).
func Block(mem [api.Size]int, pc int) (string, api.Errno) {
	if !code.AreWords(mem[:]) || pc < 0 || pc >= api.Size {
		return "", api.ErrState
	}
	return At(mem, pc).Text(), api.OK
}

// At gives the block at a place that there is in a memory of words.
func At(mem [api.Size]int, pc int) Words {
	var w Words
	for p := pc; p < api.Size && w.mayGrow(); p++ {
		w.add(mem[p])
	}
	return w
}

// Read gives the words of a block whose text s is, if it is one.
func Read(s string) (Words, bool) {
	var w Words
	if len(s) == 0 || len(s)%WordLen != 0 {
		return w, false
	}
	for at := 0; at < len(s); at += WordLen {
		if !w.mayGrow() {
			return Words{}, false
		}
		w.add(number.Read(s[at : at+WordLen]))
	}
	return w, true
}

// mayGrow tells whether a word may stand behind those of w.
func (w Words) mayGrow() bool {
	return w.Len < api.MaxBlock && w.PlainLen() == w.Len
}

func (w *Words) add(word int) {
	w.List[w.Len] = word
	w.Len++
}

// PlainLen tells how many words of w are plain: all, or all but the last one.
func (w Words) PlainLen() int {
	if w.Len > 0 && !code.IsPlain(code.Split(w.List[w.Len-1])) {
		return w.Len - 1
	}
	return w.Len
}

// Plain gives the fields of the plain words of w.
func (w Words) Plain() []code.Fields {
	var list []code.Fields
	for _, word := range w.List[:w.PlainLen()] {
		list = append(list, code.Split(word))
	}
	return list
}

// Text gives the text of w; Read undoes it.
func (w Words) Text() string {
	var b []byte
	for _, word := range w.List[:w.Len] {
		b = number.Append(b, word, WordLen)
	}
	return string(b)
}
