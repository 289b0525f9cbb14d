// Package num is layer 1: see shared/doc/01-num.md.
package num

const (
	greatest   = 1<<64 - 1
	mostBytes  = 8 // a uint64 has no more
	mostDigits = 9 // so many digits fit into an int, however wide that is
)

// Put is a number as bytes, the greatest first; Get is the way back.
func Put(n uint64, wide int) []byte {
	wide = min(max(wide, 0), mostBytes)
	b := make([]byte, wide)
	for i := range wide {
		b[wide-1-i] = byte(n >> (8 * i))
	}
	return b
}

func Get(b []byte) uint64 {
	last := b[max(len(b)-mostBytes, 0):]
	n := uint64(0)
	for i := range len(last) {
		n = n<<8 | uint64(last[i])
	}
	return n
}

// Add is a sum, up to the greatest number.
func Add(a, b uint64) uint64 {
	// Asked ahead of adding: a sum that went round would be a clock that goes back.
	if a > greatest-b {
		return greatest
	}
	return a + b
}

// Past says whether more than so many ticks lie between.
func Past(now, then, most uint64) bool {
	// now may be below then, where the difference would go round.
	return now > then && now-then > most
}

// Decimal is the number of digits; false: they are none.
func Decimal(s string, most int) (int, bool) {
	// Counted ahead of reckoning, so that the number can't go round.
	if len(s) < 1 || len(s) > mostDigits {
		return 0, false
	}
	n := 0
	for _, r := range s {
		if r < '0' || r > '9' {
			return 0, false
		}
		n = n*10 + int(r-'0')
	}
	if n > most {
		return 0, false
	}
	return n, true
}
