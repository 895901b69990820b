// Package number reads the decimals that zone texts, their ranges and configurations share.
package number

import "toponym/api"

// Parse reads a decimal without leading noughts, up to most (which is not below 0): ErrForm: it is none; ErrOver: it is greater.
func Parse(s string, most int) (int, api.Errno) {
	if !Digits(s) || len(s) > 1 && s[0] == '0' {
		return 0, api.ErrForm
	}
	n := 0
	for i := range len(s) {
		d := int(s[i] - '0')
		if d > most || n > (most-d)/10 {
			return 0, api.ErrOver
		}
		n = n*10 + d
	}
	return n, api.OK
}

// Digits tells whether a text is digits alone, at least one.
func Digits(s string) bool {
	for i := range len(s) {
		if s[i] < '0' || s[i] > '9' {
			return false
		}
	}
	return s != ""
}
