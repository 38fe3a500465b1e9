package lex

func isBlank(b int) bool {
	return b == ' ' || b == '\t' || b == '\n' || b == '\r'
}

func isDigit(b int) bool {
	return b >= '0' && b <= '9'
}

// isLetter takes _ for a letter, since words and names do so.
func isLetter(b int) bool {
	return b >= 'a' && b <= 'z' || b >= 'A' && b <= 'Z' || b == '_'
}

// isInWord reports whether a word, a name or an integer goes on with b.
func isInWord(b int) bool {
	return isLetter(b) || isDigit(b)
}

// hexDigit returns the number of a hexadecimal digit, or none.
func hexDigit(b int) int {
	switch {
	case isDigit(b):
		return b - '0'
	case b >= 'a' && b <= 'f':
		return b - 'a' + 10
	case b >= 'A' && b <= 'F':
		return b - 'A' + 10
	}
	return none
}

// isSign reports whether s is a sign, of one byte or of two.
func isSign(s string) bool {
	switch s {
	case "..", "==", "~=", "<=", ">=", "//",
		"+", "-", "*", "%", "<", ">", "=", "(", ")", "{", "}", "[", "]", ",", ".", "#", ";":
		return true
	}
	return false
}
