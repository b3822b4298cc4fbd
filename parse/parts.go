package parse

import "strconv"

// blank tells whether a byte is one of the blanks.
func blank(b byte) bool { return b == ' ' || b == '\t' || b == '\n' || b == '\r' }

func digit(b byte) bool { return b >= '0' && b <= '9' }

// Skip is the first place without a blank.
func Skip(s string, at int) int {
	at = min(max(at, 0), len(s))
	for at < len(s) && blank(s[at]) {
		at++
	}
	return at
}

// digits is where the digits end that begin at a place: a 0 stands alone.
func digits(s string, at int) int {
	if at < len(s) && s[at] == '0' {
		return at + 1
	}
	for at < len(s) && digit(s[at]) {
		at++
	}
	return at
}

// Number is the number that begins at a place.
func Number(s string, at int) (int64, int, bool) {
	if at < 0 || at >= len(s) {
		return 0, at, false
	}
	begin := at
	if s[at] == '-' {
		begin++
	}
	end := digits(s, begin)
	if end == begin {
		return 0, at, false
	}
	n, err := strconv.ParseInt(s[at:end], 10, 64)
	if err != nil {
		return 0, at, false
	}
	return n, end, true
}

// hex is the number that a digit of sixteen is.
func hex(b byte) (byte, bool) {
	switch {
	case digit(b):
		return b - '0', true
	case b >= 'a' && b <= 'f':
		return b - 'a' + 10, true
	case b >= 'A' && b <= 'F':
		return b - 'A' + 10, true
	}
	return 0, false
}

// short is the byte that a letter behind a `\` stands for.
func short(b byte) (byte, bool) {
	switch b {
	case '"', '\\', '/':
		return b, true
	case 'b':
		return '\b', true
	case 'f':
		return '\f', true
	case 'n':
		return '\n', true
	case 'r':
		return '\r', true
	case 't':
		return '\t', true
	}
	return 0, false
}

// escaped is the byte that s begins with, behind a `\`, and how many bytes tell it.
func escaped(s string) (byte, int, bool) {
	if s == "" {
		return 0, 0, false
	}
	if b, ok := short(s[0]); ok {
		return b, 1, true
	}
	if len(s) < 5 || s[:3] != "u00" {
		return 0, 0, false
	}
	high, ok := hex(s[3])
	low, also := hex(s[4])
	return high<<4 | low, 5, ok && also
}

// Quoted is the text that begins at a place.
func Quoted(s string, at int) (string, int, bool) {
	if at < 0 || at >= len(s) || s[at] != '"' {
		return "", at, false
	}
	var out []byte
	for i := at + 1; i < len(s) && s[i] >= 32 && s[i] < 127; i++ {
		switch s[i] {
		case '"':
			return string(out), i + 1, true
		case '\\':
			b, many, ok := escaped(s[i+1:])
			if !ok {
				return "", at, false
			}
			out = append(out, b)
			i += many
		default:
			out = append(out, s[i])
		}
	}
	return "", at, false
}
