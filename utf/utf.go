// Package utf is layer 1: which bytes are UTF-8: see shared/doc/01-utf.md.
package utf

// The bounds of a byte behind the first one, where the first one does not narrow them.
const (
	low  = 0x80
	high = 0xBF
)

// Take is how many bytes the sequence has that b begins with, and true; 1 and false, if b begins with none; 0 and false, if b is empty.
func Take(b []byte) (int, bool) {
	if len(b) == 0 {
		return 0, false
	}
	size := length(b[0])
	if size == 0 || size > len(b) {
		return 1, false
	}
	from, to := second(b[0])
	for i := range size - 1 {
		if c := b[i+1]; c < from || c > to {
			return 1, false
		}
		from, to = low, high
	}
	return size, true
}

// Valid tells whether b is sequences, one behind the other.
func Valid(b []byte) bool {
	for len(b) > 0 {
		n, ok := Take(b)
		if !ok {
			return false
		}
		b = b[n:]
	}
	return true
}

// Count is how many bytes and sequences Take takes off b till it is empty.
func Count(b []byte) int {
	count := 0
	for len(b) > 0 {
		n, _ := Take(b)
		b = b[n:]
		count++
	}
	return count
}

// length is how many bytes a sequence has that begins with c; 0, if none does.
func length(c byte) int {
	switch {
	case c <= 0x7F:
		return 1
	case c < 0xC2: // C0 and C1 would only say in two bytes what one byte says
		return 0
	case c <= 0xDF:
		return 2
	case c <= 0xEF:
		return 3
	case c <= 0xF4:
		return 4
	}
	return 0
}

// second is the bounds of the second byte behind a first byte c.
func second(c byte) (from, to byte) {
	switch c {
	case 0xE0: // below A0 two bytes would do
		return 0xA0, high
	case 0xED: // above 9F stand the surrogates
		return low, 0x9F
	case 0xF0: // below 90 three bytes would do
		return 0x90, high
	case 0xF4: // above 8F is more than 10FFFF
		return low, 0x8F
	}
	return low, high
}
