// Package frame: frames, and what the frames of an area tell.
package frame

import (
	"strings"

	"crib/api"
	"crib/number"
)

const (
	mark    = 'c'
	headLen = 4 // the bytes of a frame ahead of its payload
	sumLen  = 4
	divisor = 0xEDB88320 // of CRC-32, its lowest power in the highest bit
)

// Sum tells the check sum of a text (P9). It goes bit by bit: frames are short, and a table of all bytes would be long.
func Sum(s string) int {
	sum := ^uint32(0)
	for i := range len(s) {
		sum ^= uint32(s[i])
		for range 8 {
			low := sum & 1
			sum >>= 1
			if low == 1 {
				sum ^= divisor
			}
		}
	}
	return int(^sum)
}

// Seal tells a frame (P9).
func Seal(kind int, payload string) (string, api.Errno) {
	if kind < api.Open || kind > api.Whole || len(payload) > api.MaxPayload {
		return "", api.ErrArg
	}
	b := []byte{mark}
	b = number.Append(b, kind, 1)
	b = number.Append(b, len(payload), 2)
	b = append(b, payload...)
	b = number.Append(b, Sum(string(b)), sumLen)
	return string(b), api.OK
}

// frame is one that was read; size counts all of its bytes.
type frame struct {
	kind    int
	payload string
	size    int
}

// first gives the frame with which s begins, if it does so with one. That is what Seal makes of the kind and the payload, and nothing else.
func first(s string) (frame, bool) {
	if len(s) < headLen {
		return frame{}, false
	}
	kind, behind := int(s[1]), s[headLen:]
	length := number.Read(s[2:headLen])
	if length > len(behind) {
		return frame{}, false
	}
	payload := behind[:length]
	sealed, e := Seal(kind, payload)
	if e != api.OK || !strings.HasPrefix(s, sealed) {
		return frame{}, false
	}
	return frame{kind, payload, len(sealed)}, true
}
