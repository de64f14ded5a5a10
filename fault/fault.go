// Package fault: the error with which a reader, a check, or what makes an instance gives up.
package fault

import (
	"strconv"

	"loom/api"
)

// Fault is what is wrong, and where.
type Fault struct {
	Errno api.Errno
	At    int
}

// Error tells a fault as a text.
func (f Fault) Error() string {
	return "error " + strconv.Itoa(int(f.Errno)) + " at " + strconv.Itoa(f.At)
}

// GiveUp panics with a fault: the face of the program catches it, so that no one between has to hand it on.
func GiveUp(errno api.Errno, at int) {
	panic(Fault{Errno: errno, At: at})
}
