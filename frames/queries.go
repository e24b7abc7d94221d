package frames

import (
	"innkeeper/api"
)

// Owner is who holds frame f; false if nobody does.
func (p *Pool) Owner(f int) (int, bool) {
	if !p.isHeld(f) {
		return 0, false
	}
	return p.frames[f].owner, true
}

// Held is the frames that owner holds, the lowest first.
func (p *Pool) Held(owner int) []int {
	var list []int
	for f := range p.frames {
		if p.holds(owner, f) {
			list = append(list, f)
		}
	}
	return list
}

// Promised is how many frames owner was promised; 0 without a promise.
func (p *Pool) Promised(owner int) int {
	if !isOwner(owner) {
		return 0
	}
	return p.promises[owner].frames
}

// Free is the number of frames that nobody holds and that are not the monitor's.
func (p *Pool) Free() int {
	n := 0
	for f := api.Kept; f < api.Frames; f++ {
		if !p.frames[f].held {
			n++
		}
	}
	return n
}

// Byte is the byte at of frame f; false if nobody holds the frame or it has no such byte.
func (p *Pool) Byte(f, at int) (byte, bool) {
	if !p.isHeld(f) || !isByte(at) {
		return 0, false
	}
	return p.frames[f].bytes[at], true
}

// Put sets the byte at of frame f; false if nobody holds the frame or it has no such byte.
func (p *Pool) Put(f, at int, b byte) bool {
	if !p.isHeld(f) || !isByte(at) {
		return false
	}
	p.frames[f].bytes[at] = b
	return true
}

func (p *Pool) holds(owner, f int) bool {
	return p.isHeld(f) && p.frames[f].owner == owner
}

// isHeld is false of the monitor's frames too: Take never reaches them.
func (p *Pool) isHeld(f int) bool {
	return 0 <= f && f < len(p.frames) && p.frames[f].held
}

func isByte(at int) bool {
	return 0 <= at && at < api.PageSize
}
