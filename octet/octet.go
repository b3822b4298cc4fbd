// Package octet is layer 1: numbers and texts as bytes.
package octet

// number is the most bytes that a number has.
const number = 8

// text is the bytes that it is handed, as a text.
func text(l ...byte) string { return string(l) }

// within is many, brought to what a number has.
func within(many int) int { return min(max(many, 0), number) }

// Big is the last many bytes of n, the highest one first.
func Big(n uint64, many int) string {
	many = within(many)
	l := make([]byte, many)
	for i := range many {
		l[many-1-i] = byte(n >> (8 * i))
	}
	return text(l...)
}

// Low is the last many bytes of n, the lowest one first.
func Low(n uint64, many int) string {
	many = within(many)
	l := make([]byte, many)
	for i := range many {
		l[i] = byte(n >> (8 * i))
	}
	return text(l...)
}

// ReadBig is the number that bytes are, the highest one first: what is shifted out is gone.
func ReadBig(s string) uint64 {
	n := uint64(0)
	for i := range len(s) {
		n = n<<8 | uint64(s[i])
	}
	return n
}

// ReadLow is the number that bytes are, the lowest one first: those behind the eighth stand above 2^64.
func ReadLow(s string) uint64 {
	n := uint64(0)
	for i := range min(len(s), number) {
		n |= uint64(s[i]) << (8 * i)
	}
	return n
}

// Xor is each byte of both, exclusive or, as far as both go.
func Xor(a, b string) string {
	l := make([]byte, min(len(a), len(b)))
	for i := range len(l) {
		l[i] = a[i] ^ b[i]
	}
	return text(l...)
}

// Rol turns x to the left by n bits: a turn to the right is one to the left by what is left of 32, so only n's last five bits count.
func Rol(x uint32, n int) uint32 {
	by := uint32(n) & 31
	return x<<by | x>>(32-by)
}

// Equal tells whether both are the same: where they differ must not be told by how long it takes.
func Equal(a, b string) bool {
	if len(a) != len(b) {
		return false
	}
	differ := byte(0)
	for i := range len(a) {
		differ |= a[i] ^ b[i]
	}
	return differ == 0
}

// Fill is s with bytes 0 behind it up to a multiple of size.
func Fill(s string, size int) string {
	if size < 1 || len(s)%size == 0 {
		return s
	}
	return s + text(make([]byte, size-len(s)%size)...)
}

// Words are the numbers of each four bytes.
func Words(s string) []uint32 {
	l := make([]uint32, 0, len(s)/4)
	for i := range len(s) / 4 {
		l = append(l, uint32(ReadLow(s[4*i:4*i+4])))
	}
	return l
}

// Text is the bytes of all numbers, four each.
func Text(l []uint32) string {
	out := make([]byte, 0, 4*len(l))
	for i := range len(l) {
		out = append(out, Low(uint64(l[i]), 4)...)
	}
	return text(out...)
}
