package frame

import (
	"strings"

	"crib/api"
	"crib/block"
	"crib/number"
)

const generationLen = 4

// Scan tells what an area's bytes tell (P10).
func Scan(s string) api.Area {
	var a api.Area
	for {
		f, ok := first(s[a.Good:])
		if !ok || !take(&a, f) {
			return a
		}
		a.Good += f.size
	}
}

// take lays into a what a frame tells, if the frame may stand behind those that a is made of.
func take(a *api.Area, f frame) bool {
	switch {
	case a.Good == 0:
		return takeOpen(a, f)
	case f.kind == api.Entry:
		return takeEntry(a, f)
	case f.kind == api.Whole:
		return takeWhole(a, f)
	}
	return false
}

func takeOpen(a *api.Area, f frame) bool {
	if f.kind != api.Open || len(f.payload) != generationLen {
		return false
	}
	a.Generation = number.Read(f.payload)
	return a.Generation > 0
}

func takeEntry(a *api.Area, f frame) bool {
	if f.payload == "" {
		return false
	}
	count, behind := int(f.payload[0]), f.payload[1:]
	if count*block.WordLen > len(behind) {
		return false
	}
	words, ok := block.Read(behind[:count*block.WordLen])
	if !ok {
		return false
	}
	// A copy, so that a list does not hold fast all the bytes that it was read from.
	plan := strings.Clone(behind[count*block.WordLen:])
	a.List = append(a.List, api.Known{Words: words.Text(), Plan: plan})
	return true
}

func takeWhole(a *api.Area, f frame) bool {
	if a.Whole || f.payload != "" {
		return false
	}
	a.Whole = true
	return true
}
