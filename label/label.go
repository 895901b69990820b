// Package label: parts of names. See doc/01-label.md.
package label

import (
	"cmp"
	"iter"

	"toponym/api"
)

// Check tells whether a label has an octet, and not too many.
func Check(l string) api.Errno {
	switch {
	case l == "":
		return api.ErrEmpty
	case len(l) > api.MaxLabel:
		return api.ErrLong
	}
	return api.OK
}

// Text tells a label in printable octets.
func Text(l string) string {
	out := make([]byte, 0, len(l))
	for c := range octets(l) {
		out = appendOctet(out, c)
	}
	return string(out)
}

// Parse reads what Text tells, and every other text of one label.
func Parse(s string) (string, api.Errno) {
	out := make([]byte, 0, len(s))
	for at := 0; at < len(s); {
		c, size, e := readOctet(s[at:])
		if e != api.OK {
			return "", e
		}
		out = append(out, c)
		at += size
	}
	l := string(out)
	if e := Check(l); e != api.OK {
		return "", e
	}
	return l, api.OK
}

// Fold makes the letters of a label small.
func Fold(l string) string {
	out := make([]byte, 0, len(l))
	for c := range octets(l) {
		out = append(out, small(c))
	}
	return string(out)
}

// Same tells whether two labels are alike, folded.
func Same(a, b string) bool {
	return len(a) == len(b) && Compare(a, b) == 0
}

// Compare orders labels by their folded octets.
func Compare(a, b string) int {
	for i := range min(len(a), len(b)) {
		if x, y := small(a[i]), small(b[i]); x != y {
			return cmp.Compare(x, y)
		}
	}
	return cmp.Compare(len(a), len(b))
}

// Split parts a text at its dots; the parts are not read.
func Split(s string) ([]string, api.Errno) {
	var parts []string
	start, at, taken := 0, 0, false
	for c := range octets(s) {
		switch {
		case taken:
			taken = false
		case c == '\\':
			taken = true
		case c == '.':
			parts = append(parts, s[start:at])
			start = at + 1
		}
		at++
	}
	if taken {
		return nil, api.ErrForm
	}
	return append(parts, s[start:]), api.OK
}

// octets goes over a text byte by byte: a range over the text itself would go by runes.
func octets(s string) iter.Seq[byte] {
	return func(yield func(byte) bool) {
		for i := range len(s) {
			if !yield(s[i]) {
				return
			}
		}
	}
}

func appendOctet(out []byte, c byte) []byte {
	switch c {
	case '.', '\\', '"', '(', ')', ';', '@', '$':
		return append(out, '\\', c)
	}
	if c < 0x21 || c > 0x7e {
		return append(out, '\\', '0'+c/100, '0'+c/10%10, '0'+c%10)
	}
	return append(out, c)
}

// readOctet reads the octet that s (which has one) begins with, and tells how many bytes it is written with.
func readOctet(s string) (byte, int, api.Errno) {
	if s[0] == '.' {
		return 0, 0, api.ErrForm
	}
	if s[0] != '\\' {
		return s[0], 1, api.OK
	}
	if len(s) > 1 && !digit(s[1]) {
		return s[1], 2, api.OK
	}
	if len(s) < 4 || !digit(s[2]) || !digit(s[3]) {
		return 0, 0, api.ErrForm
	}
	n := int(s[1]-'0')*100 + int(s[2]-'0')*10 + int(s[3]-'0')
	if n > 255 {
		return 0, 0, api.ErrOver
	}
	return byte(n), 4, api.OK
}

func digit(c byte) bool {
	return '0' <= c && c <= '9'
}

func small(c byte) byte {
	if 'A' <= c && c <= 'Z' {
		return c + 'a' - 'A'
	}
	return c
}
