// Package scan: a reader of bytes, which gives up at the first one that cannot stand where it stands.
package scan

import (
	"slices"

	"loom/api"
	"loom/fault"
)

// Reader goes through bytes, up to an end that may lie ahead of the end of all.
type Reader struct {
	bytes   string
	at, end int
}

// Number is a U, and the place of its first byte.
type Number struct {
	Value uint32
	At    int
}

// New gives a reader of all the bytes.
func New(bytes string) Reader {
	return Reader{bytes: bytes, at: 0, end: len(bytes)}
}

// At tells the place of the next byte.
func (r *Reader) At() int { return r.at }

// MoveTo goes on at a place up to which the bytes were read already.
func (r *Reader) MoveTo(at int) { r.at = at }

// Done tells whether the end is reached.
func (r *Reader) Done() bool { return r.at >= r.end }

// Refuse gives up because of the bytes from a place on.
func Refuse(at int) { fault.GiveUp(api.ErrBytes, at) }

// Byte takes one byte.
func (r *Reader) Byte() byte {
	if r.Done() {
		Refuse(r.end)
	}
	b := r.bytes[r.at]
	r.at++
	return b
}

// Peek tells the next byte without taking it.
func (r *Reader) Peek() byte {
	if r.Done() {
		Refuse(r.end)
	}
	return r.bytes[r.at]
}

// One takes a byte that must be one of these.
func (r *Reader) One(these ...byte) byte {
	at := r.at
	b := r.Byte()
	if !slices.Contains(these, b) {
		Refuse(at)
	}
	return b
}

// Exactly takes these bytes and no others.
func (r *Reader) Exactly(these string) {
	for i := range len(these) {
		r.One(these[i])
	}
}

// Text takes as many bytes.
func (r *Reader) Text(n int) string {
	if n > r.end-r.at {
		Refuse(r.end)
	}
	text := r.bytes[r.at : r.at+n]
	r.at += n
	return text
}

// Count takes a U that tells how many, of which there may be no more than most.
func (r *Reader) Count(most int) int {
	n := r.U()
	if int64(n.Value) > int64(most) {
		Refuse(n.At)
	}
	return int(n.Value)
}

// Within takes a U and so many bytes as take takes them, which must be all of them.
func (r *Reader) Within(take func()) {
	size := r.U().Value
	outer := r.end
	// What stands there is looked at even if not all of it is there: a fault in it lies ahead of the end.
	short := int64(size) > int64(outer-r.at)
	if !short {
		r.end = r.at + int(size)
	}
	take()
	if short || !r.Done() {
		Refuse(r.at)
	}
	r.end = outer
}
