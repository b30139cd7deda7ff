// Package depot: packages of many houses, who may see them, and which of them go together: see DOC.md.
package depot

import (
	"depot/api"
	"depot/shelf"
)

// Depot is one depot.
type Depot struct {
	root   int
	clock  int
	houses []houseRecord
	public shelf.Shelf
}

// New makes a depot (P3).
func New(root int) (*Depot, api.Errno) {
	if root < 1 {
		return nil, api.ErrArg
	}
	return &Depot{root: root}, api.OK
}

// Tick lets time go by (P4).
func (d *Depot) Tick(n int) api.Errno {
	if n < 0 {
		return api.ErrArg
	}
	// The room that is left is asked first: clock+n could be too great for an int.
	if n > api.MaxClock-d.clock {
		n = api.MaxClock - d.clock
	}
	d.clock += n
	return api.OK
}

// Clock tells the time (P4).
func (d *Depot) Clock() int { return d.clock }
