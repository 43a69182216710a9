package crib_test

import (
	"encoding/binary"
	"hash/crc32"

	"crib/api"
)

// frameOf gives the bytes of a frame, of any kind and length: also of what is none by them alone.
func frameOf(kind int, payload string) string {
	b := append([]byte{'c', byte(kind), byte(len(payload) >> 8), byte(len(payload))}, payload...)
	return string(binary.BigEndian.AppendUint32(b, crc32.ChecksumIEEE(b)))
}

func openFrame(generation int) string { return frameOf(api.Open, text(generation)) }

// entryFrame gives that of a block and a plan; more tells how much greater than it is the count of words is told.
func entryFrame(words, plan string, more int) string {
	return frameOf(api.Entry, string([]byte{byte(len(words)/4 + more)})+words+plan)
}

var wholeFrame = frameOf(api.Whole, "")

// The model tells P10 a second time: it cuts all frames off first, and looks at what they are behind that.

func modelFrames(s string) []string {
	var list []string
	for len(s) >= 8 {
		size := 8 + int(s[2])*256 + int(s[3])
		if size > 208 || size > len(s) || s[1] < 1 || s[1] > 3 || s[:size] != frameOf(int(s[1]), s[4:size-4]) {
			break
		}
		list = append(list, s[:size])
		s = s[size:]
	}
	return list
}

func modelScan(s string) api.Area {
	frames := modelFrames(s)
	if len(frames) == 0 || frames[0][1] != 1 || len(frames[0]) != 12 || frames[0][4:8] == text(0) {
		return api.Area{}
	}
	a := api.Area{Generation: int(binary.BigEndian.Uint32([]byte(frames[0][4:8]))), Good: 12}
	for _, f := range frames[1:] {
		payload := f[4 : len(f)-4]
		known, ok := modelEntry(payload)
		switch {
		case f[1] == 2 && ok:
			a.List = append(a.List, known)
		case f[1] == 3 && payload == "" && !a.Whole:
			a.Whole = true
		default:
			return a
		}
		a.Good += len(f)
	}
	return a
}

func modelEntry(payload string) (api.Known, bool) {
	for n := 1; n <= 8; n++ {
		end := 1 + 4*n
		if len(payload) >= end && payload[0] == byte(n) && modelWords(payload[1:end]) != nil {
			return api.Known{Words: payload[1:end], Plan: payload[end:]}, true
		}
	}
	return api.Known{}, false
}
