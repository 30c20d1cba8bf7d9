package block

// Number reads a number that takes up all of some bytes.
func Number(bytes []byte) int {
	n := 0
	for _, b := range bytes {
		n = n<<8 | int(b)
	}
	return n
}

// SetNumber writes a number over all of some bytes, the greatest part first.
func SetNumber(bytes []byte, n int) {
	for i := len(bytes) - 1; i >= 0; i-- {
		bytes[i] = byte(n)
		n >>= 8
	}
}
