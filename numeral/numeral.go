// Package numeral: numbers told in decimal, without noughts ahead.
package numeral

import "strconv"

// Read tells the number of a text, and whether it is one between the two bounds.
func Read(text string, least int, most int) (int, bool) {
	number, err := strconv.Atoi(text)
	// Told again, a number has neither a sign '+' nor noughts ahead.
	if err != nil || number < least || number > most || strconv.Itoa(number) != text {
		return 0, false
	}
	return number, true
}
