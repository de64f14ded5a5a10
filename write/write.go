// Package write: a writer of bytes, and of numbers as short as they can be.
package write

const (
	more  = 0x80 // of a number's byte: another one follows
	seven = 0x7f // of a number's byte: its bits
	minus = 0x40 // of an S's last byte: the sign
)

// Writer has the bytes that were written to it.
type Writer struct {
	bytes []byte
}

// All gives what was written.
func (w *Writer) All() string { return string(w.bytes) }

// Bytes writes these bytes.
func (w *Writer) Bytes(these ...byte) { w.bytes = append(w.bytes, these...) }

// Text writes the bytes of a text.
func (w *Writer) Text(text string) { w.bytes = append(w.bytes, text...) }

// U writes a number without a sign.
func (w *Writer) U(n uint32) {
	for n > seven {
		w.Bytes(byte(n) | more)
		n >>= 7
	}
	w.Bytes(byte(n))
}

// S writes a number with a sign. How many bits it may have makes no difference to its shortest form.
func (w *Writer) S(n int64) {
	// The last byte has room for 6 bits and the sign.
	for n < -minus || n >= minus {
		w.Bytes(byte(n) | more)
		n >>= 7
	}
	w.Bytes(byte(n) & seven)
}

// Sized writes how many bytes a text has, and these.
func (w *Writer) Sized(text string) {
	w.U(uint32(len(text)))
	w.Text(text)
}

// Within writes what fill writes, with its size ahead.
func (w *Writer) Within(fill func(inner *Writer)) {
	var inner Writer
	fill(&inner)
	w.Sized(inner.All())
}

// List writes a vector.
func List[T any](w *Writer, all []T, put func(w *Writer, one T)) {
	w.U(uint32(len(all)))
	for _, one := range all {
		put(w, one)
	}
}
