package sha

// digits are the sixteen that bytes are told by.
var digits = [16]byte{'0', '1', '2', '3', '4', '5', '6', '7', '8', '9', 'a', 'b', 'c', 'd', 'e', 'f'}

// Hex is a text in digits, two for each byte.
func Hex(s string) string {
	l := make([]byte, 0, 2*len(s))
	for i := range len(s) {
		l = append(l, digits[s[i]>>4], digits[s[i]&15])
	}
	return string(l)
}

// digit is the number that a digit is.
func digit(b byte) (byte, bool) {
	for i := range len(digits) {
		if digits[i] == b {
			return byte(i), true
		}
	}
	return 0, false
}

// Unhex is the text of which s is the Hex.
func Unhex(s string) (string, bool) {
	if len(s)%2 != 0 {
		return "", false
	}
	l := make([]byte, 0, len(s)/2)
	for i := range len(s) / 2 {
		high, ok := digit(s[2*i])
		low, also := digit(s[2*i+1])
		if !ok || !also {
			return "", false
		}
		l = append(l, high<<4|low)
	}
	return string(l), true
}
