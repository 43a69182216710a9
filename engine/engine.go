// Package engine: a machine at work over a device, its blocks run by plans that are kept there.
package engine

import (
	"slices"

	"crib/api"
	"crib/device"
	"crib/machine"
)

// Engine is a machine at work over a device. One that is nil is over, and has nothing to tell.
type Engine struct {
	device *device.Device
	work   int  // the number that the device gave to this engine
	failed bool // a turn in one of its calls did

	state  api.State
	counts api.Counts // Waiting is not counted here

	area       int
	generation int
	size       int // the bytes of the area, as far as the engine has read and added them

	known   book // what the device has
	waiting book // what is to be laid there
	ready   book // what was found or made to be right, since Start
}

// isOver tells whether the engine may not go on.
func (e *Engine) isOver() bool {
	return e == nil || e.failed || !e.device.Works(e.work)
}

// State tells how the machine is (P15).
func (e *Engine) State() api.State {
	if e == nil {
		return api.State{}
	}
	return e.state
}

// Counts tells what was done with blocks (P15).
func (e *Engine) Counts() api.Counts {
	if e == nil {
		return api.Counts{}
	}
	c := e.counts
	c.Waiting = len(e.waiting.list)
	return c
}

// Known tells the blocks and plans that the device has (P15).
func (e *Engine) Known() []api.Known {
	if e == nil {
		return nil
	}
	return slices.Clone(e.known.list)
}

// Start begins a machine at work (P13).
func Start(d *device.Device, s api.State) (*Engine, api.Errno) {
	if d == nil {
		return nil, api.ErrArg
	}
	if !machine.IsState(s) {
		return nil, api.ErrState
	}
	e := &Engine{device: d, work: d.Engage(), state: s}
	if err := e.open(); err != api.OK {
		return nil, err
	}
	return e, api.OK
}
