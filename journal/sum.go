package journal

const (
	sumStart = 65535
	sumMask  = 65535
	sumMix   = 4129
)

// Sum adds a text up to a number from 0 to 65535, so that a changed text is noticed (P3).
func Sum(s string) int {
	n := sumStart
	for i := 0; i < len(s); i++ {
		n = addByte(n, int(s[i]))
	}
	return n
}

func addByte(n int, c int) int {
	for bit := 128; bit > 0; bit = bit / 2 {
		top := n >= 32768
		set := c&bit != 0
		n = n * 2 & sumMask
		if top != set {
			n = n ^ sumMix
		}
	}
	return n
}
