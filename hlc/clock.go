package hlc

import "headrace/api"

// Clock is the clock of a node: its stamps increase, and follow those that it observes.
type Clock struct {
	// last has the node of the clock, whichever node's stamp its Wall and Logical are from.
	last api.Stamp
}

// New returns the clock of a node, whose stamps are greater than floor.
func New(node int, floor api.Stamp) (*Clock, api.Errno) {
	if node < 1 || node > api.MaxNode {
		return nil, api.ErrRange
	}
	if !May(floor) {
		return nil, api.ErrStamp
	}
	floor.Node = node
	return &Clock{last: floor}, api.OK
}

// Peek returns what Now would return, and changes nothing.
func (c *Clock) Peek(phys int) (api.Stamp, api.Errno) {
	if phys > api.MaxWall {
		return api.Stamp{}, api.ErrWall
	}
	next := c.last
	// A negative phys needs no care: it is never above a Wall, as 0 is not.
	if phys > next.Wall {
		next.Wall, next.Logical = phys, 0
		return next, api.OK
	}
	if next.Logical == api.MaxLogical {
		return api.Stamp{}, api.ErrLogical
	}
	next.Logical++
	return next, api.OK
}

// Now returns the next stamp, at the physical time phys.
func (c *Clock) Now(phys int) (api.Stamp, api.Errno) {
	next, e := c.Peek(phys)
	if e == api.OK {
		c.last = next
	}
	return next, e
}

// Observe makes the stamps to come greater than s.
func (c *Clock) Observe(s api.Stamp) api.Errno {
	if !May(s) {
		return api.ErrStamp
	}
	// With the node of the clock itself, s is later only by its Wall or its Logical.
	s.Node = c.last.Node
	c.last = Later(c.last, s)
	return api.OK
}

// Last returns the last stamp, from which the next one goes on.
func (c *Clock) Last() api.Stamp {
	return c.last
}
