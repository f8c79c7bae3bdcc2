package frame

// polynomial is that of CRC-32, its bits in reverse.
const polynomial = 0xEDB88320

// Sum tells the check sum of a text (P4).
func Sum(s string) int {
	c := ^uint32(0)
	for i := range len(s) {
		c = shiftByte(c ^ uint32(s[i]))
	}
	return int(^c)
}

func shiftByte(c uint32) uint32 {
	for range 8 {
		if c&1 == 1 {
			c = c>>1 ^ polynomial
		} else {
			c >>= 1
		}
	}
	return c
}
