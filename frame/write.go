package frame

import (
	"strings"

	"crib/api"
	"crib/block"
	"crib/number"
)

// Anew tells the frames of an area that is written anew (P17).
func Anew(generation int, list []api.Known) string {
	open := sealed(api.Open, string(number.Append(nil, generation, generationLen)))
	return open + Entries(list) + sealed(api.Whole, "")
}

// Entries tells the Entry frames of blocks and their plans, one behind the other.
func Entries(list []api.Known) string {
	var b strings.Builder
	for _, k := range list {
		count := number.Append(nil, len(k.Words)/block.WordLen, 1)
		b.WriteString(sealed(api.Entry, string(count)+k.Words+k.Plan))
	}
	return b.String()
}

// sealed is Seal of what it does not refuse: plans that Scan read were in a frame already, and those of Translate are short.
func sealed(kind int, payload string) string {
	s, _ := Seal(kind, payload)
	return s
}
