// Package ints is whole numbers: see DOC.md, chapter 1.
package ints

import "strings"

// Parse reads what Print writes, and refuses every other text.
func Parse(s string) (int64, bool) {
	digits, negative := strings.CutPrefix(s, "-")
	if digits == "" || digits[0] == '0' && s != "0" {
		return 0, false
	}
	n, ok := parseBelow(digits)
	if negative || !ok {
		return n, ok
	}
	return Sub(0, n)
}

// parseBelow returns minus the number of the digits: below zero there is room
// for the smallest int64 too, above it there is not.
func parseBelow(digits string) (int64, bool) {
	var n int64
	var ok bool
	i := 0
next:
	if i == len(digits) {
		return n, true
	}
	digit := digits[i] - '0'
	if digit > 9 {
		return 0, false
	}
	if n, ok = Mul(n, 10); !ok {
		return 0, false
	}
	if n, ok = Sub(n, int64(digit)); !ok {
		return 0, false
	}
	i++
	goto next
}

// Print writes the one text that Parse accepts for n.
func Print(n int64) string {
	// uint64, because minus the smallest int64 is no int64.
	rest := uint64(n)
	if n < 0 {
		rest = -rest
	}
	var text [20]byte
	at := len(text)
next:
	at--
	text[at] = byte('0' + rest%10)
	rest /= 10
	if rest > 0 {
		goto next
	}
	if n < 0 {
		at--
		text[at] = '-'
	}
	return string(text[at:])
}

// Add returns a + b where it fits.
func Add(a, b int64) (int64, bool) {
	sum := a + b
	if (sum < a) != (b < 0) {
		return 0, false
	}
	return sum, true
}

// Sub returns a - b where it fits.
func Sub(a, b int64) (int64, bool) {
	difference := a - b
	if (difference > a) != (b < 0) {
		return 0, false
	}
	return difference, true
}

// Mul returns a * b where it fits.
func Mul(a, b int64) (int64, bool) {
	if b == 0 {
		return 0, true
	}
	if b == -1 {
		// Dividing the product by -1 wraps round as well, and would tell nothing.
		return Sub(0, a)
	}
	product := a * b
	if product/b != a {
		return 0, false
	}
	return product, true
}

// Div returns a / b rounded down, where it fits.
func Div(a, b int64) (int64, bool) {
	if b == 0 {
		return 0, false
	}
	if b == -1 {
		return Sub(0, a)
	}
	quotient := a / b
	if a%b != 0 && (a < 0) != (b < 0) {
		// Go rounds towards zero.
		quotient--
	}
	return quotient, true
}

// Mod returns the rest that Div leaves; it has the sign of b.
func Mod(a, b int64) (int64, bool) {
	if b == 0 {
		return 0, false
	}
	rest := a % b
	if rest != 0 && (rest < 0) != (b < 0) {
		// Go's rest has the sign of a.
		rest += b
	}
	return rest, true
}
