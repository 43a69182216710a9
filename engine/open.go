package engine

import (
	"crib/api"
	"crib/device"
	"crib/frame"
)

// open finds the engine's area, and what it knows by it (P13).
func (e *Engine) open() api.Errno {
	texts, err := e.readAreas()
	if err != api.OK {
		return err
	}
	var areas [device.Areas]api.Area
	for i, s := range texts {
		areas[i] = frame.Scan(s)
	}
	current, ok := currentOf(areas)
	if !ok {
		// As if generation 0 were in area 1: so the next one is 1, in area 0.
		e.area = 1
		return e.writeAnew()
	}
	a := areas[current]
	e.area, e.generation, e.size = current, a.Generation, len(texts[current])
	e.known = bookOf(a.List)
	if a.Good < e.size {
		return e.writeAnew()
	}
	return api.OK
}

// readAreas tells the bytes of all areas. All are made lasting first, so that nothing is known that a crash could take away.
func (e *Engine) readAreas() ([device.Areas]string, api.Errno) {
	var texts [device.Areas]string
	for i := range texts {
		if err := e.turn(e.device.Sync(i)); err != api.OK {
			return texts, err
		}
	}
	for i := range texts {
		s, err := e.device.Read(i)
		if err := e.turn(err); err != api.OK {
			return texts, err
		}
		texts[i] = s
	}
	return texts, api.OK
}

// currentOf gives the whole area of the greatest generation, the first one of such, if there is one.
func currentOf(areas [device.Areas]api.Area) (int, bool) {
	current, generation := 0, 0
	for i, a := range areas {
		if a.Whole && a.Generation > generation {
			current, generation = i, a.Generation
		}
	}
	return current, generation > 0
}
