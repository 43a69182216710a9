package crib_test

import (
	"fmt"

	"crib/api"
	"crib/crib"
)

func Example() {
	words, place, err := crib.Assemble(`
        set r2 7        ; a remark
loop:   add r1 r1 r2
        same r1 r3 end
        jump loop
end:    halt`)
	fmt.Println(len(words), place, err)
	var s api.State
	copy(s.Mem[:], words)
	s.Regs[3] = 70
	for s.Stop == api.Running {
		s, err = crib.Step(s)
	}
	fmt.Println(s.Regs, s.Pc, s.Stop, err)
	// Output:
	// 5 {0 0} 0
	// [0 70 7 70 0 0 0 0] 4 1 0
}
