// Package number: whole numbers as bytes, the highest first.
package number

// Append lays v behind b, in k bytes.
func Append(b []byte, v, k int) []byte {
	for i := k - 1; i >= 0; i-- {
		b = append(b, byte(v>>(8*i)))
	}
	return b
}

// Read gives the number whose bytes s is; it undoes Append.
func Read(s string) int {
	v := 0
	for i := range len(s) {
		v = v<<8 | int(s[i])
	}
	return v
}
