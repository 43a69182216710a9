package engine

import (
	"slices"

	"crib/api"
	"crib/code"
	"crib/frame"
)

// Persist lays new plans into the device (P16).
func (e *Engine) Persist() api.Errno {
	if e.isOver() {
		return api.ErrOver
	}
	if len(e.waiting.list) == 0 {
		return api.OK
	}
	frames := frame.Entries(e.waiting.list)
	if e.size+len(frames) > api.MaxArea {
		return e.writeAnew()
	}
	if err := e.lay(e.area, frames); err != api.OK {
		return err
	}
	e.size += len(frames)
	e.learn()
	return api.OK
}

// Compact writes all plans anew (P17).
func (e *Engine) Compact() api.Errno {
	if e.isOver() {
		return api.ErrOver
	}
	return e.writeAnew()
}

// writeAnew lays what is known and what waits into the other area (P17). The area that was the engine's till then stays as it is: till the other one is whole, it is the one that counts.
func (e *Engine) writeAnew() api.Errno {
	area, generation := 1-e.area, e.generation+1
	if generation > code.MaxWord {
		return api.ErrSpent
	}
	frames := frame.Anew(generation, e.together().list)
	if len(frames) > api.MaxArea {
		return api.ErrFull
	}
	if err := e.turn(e.device.Clear(area)); err != api.OK {
		return err
	}
	if err := e.lay(area, frames); err != api.OK {
		return err
	}
	e.area, e.generation, e.size = area, generation, len(frames)
	e.learn()
	return api.OK
}

// lay puts frames behind an area's bytes, and makes them lasting.
func (e *Engine) lay(area int, frames string) api.Errno {
	if err := e.turn(e.device.Add(area, frames)); err != api.OK {
		return err
	}
	return e.turn(e.device.Sync(area))
}

// turn takes what a turn answered. One that was not done, for whatever reason, has failed: the engine is over, as it does not know what the device has.
func (e *Engine) turn(answer api.Errno) api.Errno {
	if answer == api.OK {
		return api.OK
	}
	e.failed = true
	return api.ErrDevice
}

// together gives what is known and what waits.
func (e *Engine) together() book {
	return bookOf(slices.Concat(e.known.list, e.waiting.list))
}

// learn lets the engine know what waited, now that the device has it.
func (e *Engine) learn() {
	e.known, e.waiting = e.together(), book{}
}
