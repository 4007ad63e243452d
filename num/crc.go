package num

const polynomial = 0xedb88320

// Crc tells the check sum of some texts.
func Crc(l ...string) int {
	x := ^uint32(0)
	for _, s := range l {
		for i := range len(s) {
			x = stir(x ^ uint32(s[i]))
		}
	}
	return int(^x)
}

// stir takes the eight steps of a byte. It masks where it might branch: the bits follow no rule that a branch could be guessed by.
func stir(x uint32) uint32 {
	for range 8 {
		x = x>>1 ^ polynomial&-(x&1)
	}
	return x
}
