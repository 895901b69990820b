package gen

import (
	"strconv"
	"strings"

	"toponym/api"
	"toponym/number"
)

const maxWidth = 63

// Put puts n in the places that s has for it.
func Put(s string, n int) (string, api.Errno) {
	var out []byte
	for i := 0; i < len(s); {
		rest := s[i:]
		piece, size := rest[:1], 1
		switch {
		case strings.HasPrefix(rest, `\$`):
			piece, size = `\$`, 2
		case strings.HasPrefix(rest, "$$"):
			piece, size = "$", 2
		case strings.HasPrefix(rest, "${"):
			var e api.Errno
			if piece, size, e = putBraces(rest, n); e != api.OK {
				return "", e
			}
		case rest[0] == '$':
			piece = strconv.Itoa(n)
		}
		out = append(out, piece...)
		i += size
	}
	return string(out), api.OK
}

// putBraces tells what stands for the braces that s begins with, and how many bytes they take.
func putBraces(s string, n int) (string, int, api.Errno) {
	end := strings.IndexByte(s, '}')
	if end < 0 {
		return "", 0, api.ErrForm
	}
	b, e := parseBraces(s[len("${"):end])
	if e != api.OK {
		return "", 0, e
	}
	// n may be any number: asked so, the sum does not wrap round.
	if n < -b.off || n > most-b.off {
		return "", 0, api.ErrOver
	}
	return b.show(n + b.off), end + 1, api.OK
}

// braces is what ${OFF,WIDTH,BASE} says.
type braces struct {
	off, width int
	base       string
}

func parseBraces(s string) (braces, api.Errno) {
	parts := strings.Split(s, ",")
	if len(parts) > 3 {
		return braces{}, api.ErrForm
	}
	b := braces{base: "d"}
	width := "0"
	if len(parts) > 1 {
		width = parts[1]
	}
	if len(parts) > 2 {
		b.base = parts[2]
	}
	digits, below := strings.CutPrefix(parts[0], "-")
	var offError, widthError api.Errno
	b.off, offError = number.Parse(digits, most)
	b.width, widthError = number.Parse(width, maxWidth)
	if offError == api.ErrForm || widthError == api.ErrForm || !isBase(b.base) {
		return braces{}, api.ErrForm
	}
	if offError != api.OK || widthError != api.OK {
		return braces{}, api.ErrOver
	}
	if below {
		b.off = -b.off
	}
	return b, api.OK
}

func isBase(s string) bool {
	return s == "d" || s == "o" || s == "x" || s == "X"
}

// show tells n, which is not below 0.
func (b braces) show(n int) string {
	base := 10
	switch b.base {
	case "o":
		base = 8
	case "x", "X":
		base = 16
	}
	s := strconv.FormatInt(int64(n), base)
	if b.base == "X" {
		s = strings.ToUpper(s)
	}
	return strings.Repeat("0", max(b.width-len(s), 0)) + s
}
