// Package ascii holds the tokens, case, numbers and quoted strings of which
// header fields are made: see the chapter 01-ascii.md of the document.
//
// Every function works on single bytes: a string may hold any bytes, and those
// above 127 are never decoded as characters.
package ascii

import "variantproxy/api"

// Token reports whether s is a token: one or more of the bytes allowed in names.
func Token(s string) bool {
	for i := range len(s) {
		if !isTokenByte(s[i]) {
			return false
		}
	}
	return s != ""
}

// Text reports whether s may stand in a field value; the empty string may.
func Text(s string) bool {
	for i := range len(s) {
		if !isTextByte(s[i]) {
			return false
		}
	}
	return true
}

// Lower returns s with the ASCII letters in lower case.
func Lower(s string) string {
	lowered := make([]byte, len(s))
	for i := range len(s) {
		lowered[i] = lowerByte(s[i])
	}
	return string(lowered)
}

// Fold reports whether a and b differ at most in the case of ASCII letters.
func Fold(a, b string) bool {
	if len(a) != len(b) {
		return false
	}
	for i := range len(a) {
		if lowerByte(a[i]) != lowerByte(b[i]) {
			return false
		}
	}
	return true
}

// Trim returns s without the spaces and tabs at its ends.
func Trim(s string) string {
	start, end := 0, len(s)
	for start < end && isBlank(s[start]) {
		start++
	}
	for start < end && isBlank(s[end-1]) {
		end--
	}
	return s[start:end]
}

// Number returns the value of the decimal digits s, at most MaxSeconds, and
// false if s is anything else than one or more digits.
func Number(s string) (int, bool) {
	value := 0
	for i := range len(s) {
		if !isDigit(s[i]) {
			return 0, false
		}
		value = appendDigit(value, int(s[i]-'0'))
	}
	return value, s != ""
}

// Decimal returns n in decimal digits, after a minus sign if n is negative.
func Decimal(n int) string {
	// Unsigned negation wraps around, so the smallest int, which has no
	// positive counterpart among the ints, gets its true magnitude too.
	magnitude := uint(n)
	if n < 0 {
		magnitude = -magnitude
	}
	var buffer [maxDecimalBytes]byte
	start := len(buffer)
	for {
		start--
		buffer[start] = '0' + byte(magnitude%10)
		magnitude /= 10
		if magnitude == 0 {
			break
		}
	}
	if n < 0 {
		start--
		buffer[start] = '-'
	}
	return string(buffer[start:])
}

// Quote returns s as a quoted string.
func Quote(s string) string {
	quoted := make([]byte, 0, len(s)+2)
	quoted = append(quoted, '"')
	for i := range len(s) {
		switch s[i] {
		case '"', '\\':
			quoted = append(quoted, '\\')
		}
		quoted = append(quoted, s[i])
	}
	return string(append(quoted, '"'))
}

// Unquote returns the string of which s is a quoted form, and false if s is
// not a quoted string.
func Unquote(s string) (string, bool) {
	last := len(s) - 1
	// A lone double quote cannot be both the opening and the closing one.
	if last < 1 || s[0] != '"' || s[last] != '"' {
		return "", false
	}
	inner := s[1:last]
	if !Text(inner) {
		return "", false
	}
	return unescape(inner)
}

// The smallest int of 64 bits has 19 digits and a minus sign.
const maxDecimalBytes = 20

// appendDigit returns the number whose digits are those of value followed by
// digit, or MaxSeconds if that is less. It compares before it multiplies,
// because the product could exceed an int of 32 bits.
func appendDigit(value, digit int) int {
	if value > (api.MaxSeconds-digit)/10 {
		return api.MaxSeconds
	}
	return value*10 + digit
}

// unescape resolves the backslashes of the inside of a quoted string.
func unescape(inner string) (string, bool) {
	content := make([]byte, 0, len(inner))
	for i := 0; i < len(inner); i++ {
		switch inner[i] {
		case '"':
			return "", false
		case '\\':
			i++
			// Such a backslash would escape the closing double quote.
			if i == len(inner) {
				return "", false
			}
		}
		content = append(content, inner[i])
	}
	return string(content), true
}

func isTokenByte(b byte) bool {
	switch b {
	case '!', '#', '$', '%', '&', '\'', '*', '+', '-', '.', '^', '_', '`', '|', '~':
		return true
	}
	return isLetter(b) || isDigit(b)
}

func isTextByte(b byte) bool {
	switch {
	case b == '\t', 32 <= b && b <= 126, b >= 128:
		return true
	}
	return false
}

func isLetter(b byte) bool {
	switch {
	case 'a' <= b && b <= 'z', 'A' <= b && b <= 'Z':
		return true
	}
	return false
}

func isDigit(b byte) bool {
	return '0' <= b && b <= '9'
}

func isBlank(b byte) bool {
	switch b {
	case ' ', '\t':
		return true
	}
	return false
}

func lowerByte(b byte) byte {
	switch {
	case 'A' <= b && b <= 'Z':
		return b + ('a' - 'A')
	}
	return b
}
