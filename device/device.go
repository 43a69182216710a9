// Package device: two areas of bytes, whose calls may fail and which may crash.
package device

import "crib/api"

// area is bytes, the first of which last.
type area struct {
	bytes   []byte
	lasting int
}

// Areas is how many areas a device has.
const Areas = 2

// Device is two areas of bytes. One that is nil has no areas.
type Device struct {
	areas   [Areas]area
	trouble int // the turn that fails, counted from the next one as 1; 0, if none does
	work    int // the number of the engine that works here, or of none since a crash
}

// New makes a device with empty areas (P11).
func New() *Device { return &Device{} }

// turn gives an area for a turn that does not fail (P12).
func (d *Device) turn(i int) (*area, api.Errno) {
	if d == nil || i < 0 || i >= len(d.areas) {
		return nil, api.ErrArea
	}
	if d.trouble > 0 {
		d.trouble--
		if d.trouble == 0 {
			return nil, api.ErrDevice
		}
	}
	return &d.areas[i], api.OK
}

// Add lays bytes behind those of an area (P11).
func (d *Device) Add(i int, s string) api.Errno {
	a, e := d.turn(i)
	if e != api.OK {
		return e
	}
	if len(a.bytes)+len(s) > api.MaxArea {
		return api.ErrFull
	}
	a.bytes = append(a.bytes, s...)
	return api.OK
}

// Clear empties an area (P11).
func (d *Device) Clear(i int) api.Errno {
	a, e := d.turn(i)
	if e != api.OK {
		return e
	}
	*a = area{}
	return api.OK
}

// Sync makes an area's bytes lasting (P11).
func (d *Device) Sync(i int) api.Errno {
	a, e := d.turn(i)
	if e != api.OK {
		return e
	}
	a.lasting = len(a.bytes)
	return api.OK
}

// Read tells an area's bytes (P11).
func (d *Device) Read(i int) (string, api.Errno) {
	a, e := d.turn(i)
	if e != api.OK {
		return "", e
	}
	return string(a.bytes), api.OK
}

// Trouble lets the k-th turn from now on fail, in place of any other (P12).
func (d *Device) Trouble(k int) api.Errno {
	if k < 0 {
		return api.ErrArg
	}
	if d != nil {
		d.trouble = k
	}
	return api.OK
}

// Crash loses what does not last (P12).
func (d *Device) Crash(keep int, junk string) {
	if d == nil {
		return
	}
	for i := range d.areas {
		d.areas[i].crash(keep, junk)
	}
	d.trouble = 0
	d.work++
}

// Engage gives a number to an engine that begins to work here. The engine before is over by that.
func (d *Device) Engage() int {
	d.work++
	return d.work
}

// Works tells whether the engine of that number works here still: no other has begun, and the device has not crashed.
func (d *Device) Works(number int) bool { return number == d.work }

// crash keeps of the bytes that do not last the first ones alone, and lays junk in place of the others.
func (a *area) crash(keep int, junk string) {
	loose := len(a.bytes) - a.lasting
	stay := min(max(keep, 0), loose)
	lost := loose - stay
	a.bytes = append(a.bytes[:a.lasting+stay], junk[:min(lost, len(junk))]...)
	a.lasting = len(a.bytes)
}
