package crib_test

import (
	"fmt"

	"crib/api"
	"crib/crib"
)

func Example() {
	words, place, err := crib.Assemble(`
        set r2 7        ; a remark
loop:   add r1 r1 r2
        same r1 r3 end
        jump loop
end:    halt`)
	fmt.Println(len(words), place, err)
	var s api.State
	copy(s.Mem[:], words)
	s.Regs[3] = 70
	for s.Stop == api.Running {
		s, err = crib.Step(s)
	}
	fmt.Println(s.Regs, s.Pc, s.Stop, err)
	// Output:
	// 5 {0 0} 0
	// [0 70 7 70 0 0 0 0] 4 1 0
}

func ExampleTranslate() {
	words, _, _ := crib.Assemble("set r1 5\nadd r2 r1 r1\nset r1 6\nstore r2 r1 0")
	var mem [api.Size]int
	copy(mem[:], words)
	block, err := crib.Block(mem, 0)
	fmt.Printf("%x %d\n", block, err)
	plan, err := crib.Translate(block)
	fmt.Printf("%x %d\n", plan, err)
	fmt.Println(crib.Accept(block, plan))
	fmt.Println(crib.Do(plan, [api.Regs]int{}, mem))
	fmt.Println(crib.Puts(plan))
	// Output:
	// 01100005022110000110000607210000 0
	// 010200000000000a0101000000000006 0
	// 0
	// [0 6 10 0 0 0 0 0] 0
	// [{1 2 0 0 10} {1 1 0 0 6}] 0
}

func ExampleScan() {
	block, plan := bytes(loopHead), bytes(loopPlan)
	d := crib.NewDevice()
	open, _ := crib.Seal(api.Open, "\x00\x00\x00\x01")
	entry, _ := crib.Seal(api.Entry, "\x04"+block+plan)
	fmt.Println(d.Add(0, open+entry))
	fmt.Println(d.Sync(0))
	whole, _ := crib.Seal(api.Whole, "")
	fmt.Println(d.Add(0, whole))
	d.Crash(3, "junk")
	s, err := d.Read(0)
	area := crib.Scan(s)
	fmt.Println(len(s), err, area.Generation, len(area.List), area.Whole, area.Good)
	// Output:
	// 0
	// 0
	// 0
	// 60 0 1 1 false 53
}

func ExampleStart() {
	words, _, _ := crib.Assemble("set r1 5\nadd r2 r1 r1\nset r1 6\nstore r2 r1 0\njump 0")
	var s api.State
	copy(s.Mem[:], words)
	d := crib.NewDevice()
	e, err := crib.Start(d, s)
	fmt.Println(err)
	fmt.Println(e.Run(11))
	fmt.Printf("%+v\n", e.Counts())
	fmt.Println(e.Persist(), len(e.Known()))
	d.Crash(0, "")
	fmt.Println(e.Run(1))
	e, err = crib.Start(d, s)
	fmt.Println(err)
	fmt.Println(e.Run(11))
	fmt.Printf("%+v\n", e.Counts())
	fmt.Println(e.State().Pc, e.State().Regs, e.State().Mem[6])
	// Output:
	// 0
	// 11 0
	// {Used:2 Served:0 Refused:0 Translated:2 Waiting:2}
	// 0 2
	// 0 17
	// 0
	// 11 0
	// {Used:2 Served:2 Refused:0 Translated:0 Waiting:0}
	// 1 [0 5 10 0 0 0 0 0] 10
}
