// Package crib: a machine whose blocks are run by plans that are kept, and trusted only when they are right: see DOC.md.
package crib

import (
	"crib/api"
	"crib/assembler"
	"crib/block"
	"crib/device"
	"crib/engine"
	"crib/frame"
	"crib/machine"
	"crib/meaning"
	"crib/plans"
	"crib/translator"
)

// Assemble tells the words of a program's text (P4).
func Assemble(s string) ([]int, api.Place, api.Errno) { return assembler.Assemble(s) }

// Step makes a step of the machine (P3).
func Step(s api.State) (api.State, api.Errno) { return machine.Step(s) }

// Block tells the words of the block at a place of the memory (P5).
func Block(mem [api.Size]int, pc int) (string, api.Errno) { return block.Block(mem, pc) }

// Puts tells the puts of a plan (P6).
func Puts(plan string) ([]api.Put, api.Errno) { return plans.Puts(plan) }

// Do does a plan (P6).
func Do(plan string, regs [api.Regs]int, mem [api.Size]int) ([api.Regs]int, api.Errno) {
	return plans.Do(plan, regs, mem)
}

// Accept tells whether a plan is one of a block (P7).
func Accept(words string, plan string) api.Errno { return meaning.Accept(words, plan) }

// Translate tells a block's own plan (P8).
func Translate(words string) (string, api.Errno) { return translator.Translate(words) }

// Sum tells the check sum of a text (P9).
func Sum(s string) int { return frame.Sum(s) }

// Seal tells a frame (P9).
func Seal(kind int, payload string) (string, api.Errno) { return frame.Seal(kind, payload) }

// Scan tells what an area's bytes tell (P10).
func Scan(s string) api.Area { return frame.Scan(s) }

// Device is two areas of bytes.
type Device struct {
	inner *device.Device
}

// NewDevice makes a device (P11).
func NewDevice() *Device { return &Device{device.New()} }

// within gives the device itself, nil for one that is nil.
func (d *Device) within() *device.Device {
	if d == nil {
		return nil
	}
	return d.inner
}

// Add lays bytes behind those of an area (P11).
func (d *Device) Add(area int, s string) api.Errno { return d.within().Add(area, s) }

// Clear empties an area (P11).
func (d *Device) Clear(area int) api.Errno { return d.within().Clear(area) }

// Sync makes an area's bytes lasting (P11).
func (d *Device) Sync(area int) api.Errno { return d.within().Sync(area) }

// Read tells an area's bytes (P11).
func (d *Device) Read(area int) (string, api.Errno) { return d.within().Read(area) }

// Trouble lets a later turn fail (P12).
func (d *Device) Trouble(k int) api.Errno { return d.within().Trouble(k) }

// Crash loses what does not last (P12).
func (d *Device) Crash(keep int, junk string) { d.within().Crash(keep, junk) }

// Engine is a machine at work over a device.
type Engine struct {
	inner *engine.Engine
}

// within gives the engine itself, nil for one that is nil.
func (e *Engine) within() *engine.Engine {
	if e == nil {
		return nil
	}
	return e.inner
}

// Start begins a machine at work (P13).
func Start(d *Device, s api.State) (*Engine, api.Errno) {
	inner, err := engine.Start(d.within(), s)
	if err != api.OK {
		return nil, err
	}
	return &Engine{inner}, api.OK
}

// Run makes steps (P14).
func (e *Engine) Run(fuel int) (int, api.Errno) { return e.within().Run(fuel) }

// State tells how the machine is (P15).
func (e *Engine) State() api.State { return e.within().State() }

// Counts tells what was done with blocks (P15).
func (e *Engine) Counts() api.Counts { return e.within().Counts() }

// Known tells the blocks and plans that the device has (P15).
func (e *Engine) Known() []api.Known { return e.within().Known() }

// Persist lays new plans into the device (P16).
func (e *Engine) Persist() api.Errno { return e.within().Persist() }

// Compact writes all plans anew (P17).
func (e *Engine) Compact() api.Errno { return e.within().Compact() }
