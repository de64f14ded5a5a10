package scan

const (
	more  = 0x80 // of a number's byte: another one follows
	seven = 0x7f // of a number's byte: its bits
	minus = 0x40 // of an S's last byte: the sign
)

// U takes a number of 32 bits without a sign.
func (r *Reader) U() Number {
	start := r.at
	var value uint32
	for shift := 0; ; shift += 7 {
		at := r.at
		b := r.Byte()
		// The fifth byte has room for 4 bits, and none may follow it.
		if shift == 28 && b>>4 != 0 {
			Refuse(at)
		}
		value |= uint32(b&seven) << shift
		if b&more == 0 {
			return Number{Value: value, At: start}
		}
	}
}

// S takes a number of so many bits with a sign.
func (r *Reader) S(bits int) int64 {
	last := (bits - 1) / 7 * 7
	var value uint64
	for shift := 0; ; shift += 7 {
		at := r.at
		b := r.Byte()
		if shift == last && !signOnly(b, bits-last) {
			Refuse(at)
		}
		value |= uint64(b&seven) << shift
		if b&more == 0 {
			return withSign(value, b, shift+7)
		}
	}
}

// signOnly tells whether what is in a number's last byte above its room of so many bits is like the sign, the highest of them, and none follows.
func signOnly(b byte, room int) bool {
	rest := b >> (room - 1)
	return rest == 0 || rest == seven>>(room-1)
}

// withSign fills a number up from its width on if the sign in its last byte is set.
func withSign(value uint64, last byte, width int) int64 {
	if last&minus != 0 && width < 64 {
		value |= ^uint64(0) << width
	}
	return int64(value)
}
