// Package bits is layer 1: numbers, as bytes.
package bits

const (
	mostBytes = 7       // more might not fit an int
	whole     = 1 << 16 // the numbers of two bytes
	half      = whole / 2
)

// Put is n as so many bytes, the greatest first; false, if it does not fit.
func Put(n int, many int) ([]byte, bool) {
	if many < 1 || many > mostBytes || n < 0 || n >= 1<<(8*many) {
		return nil, false
	}
	var laid [mostBytes]byte
	for i := range many {
		laid[mostBytes-1-i] = byte(n >> (8 * i))
	}
	return append([]byte(nil), laid[mostBytes-many:]...), true
}

// Get is the number that one to seven bytes are, the greatest first; false of other counts.
func Get(b []byte) (int, bool) {
	if len(b) < 1 || len(b) > mostBytes {
		return 0, false
	}
	n := 0
	for _, x := range b {
		n = n<<8 | int(x)
	}
	return n, true
}

// Sign is the number with a sign that two bytes' number stands for; 0 of what is none.
func Sign(n int) int {
	switch {
	case n < 0 || n >= whole:
		return 0
	case n >= half:
		return n - whole
	}
	return n
}

// Bare is the number of two bytes that stands for one with a sign; 0 of what is too great.
func Bare(n int) int {
	switch {
	case n < -half || n >= half:
		return 0
	case n < 0:
		return n + whole
	}
	return n
}
