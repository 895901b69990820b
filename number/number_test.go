package number

import (
	"math"
	"strings"
	"testing"

	"toponym/api"
)

func TestParse(t *testing.T) {
	for _, c := range []struct {
		s    string
		most int
		n    int
		e    api.Errno
	}{
		{"0", 0, 0, api.OK}, {"1", 0, 0, api.ErrOver}, {"255", 255, 255, api.OK}, {"256", 255, 0, api.ErrOver},
		{"4294967295", math.MaxUint32, math.MaxUint32, api.OK}, {"4294967296", math.MaxUint32, 0, api.ErrOver},
		{"9223372036854775807", math.MaxInt, math.MaxInt, api.OK}, {"9223372036854775808", math.MaxInt, 0, api.ErrOver},
		{strings.Repeat("9", 1000), 9, 0, api.ErrOver}, {"", 9, 0, api.ErrForm}, {"00", 9, 0, api.ErrForm},
		{"01", 9, 0, api.ErrForm}, {"-1", 9, 0, api.ErrForm}, {"+1", 9, 0, api.ErrForm}, {"1 ", 9, 0, api.ErrForm},
		{"99x", 9, 0, api.ErrForm}, {"\u0661", 9, 0, api.ErrForm},
	} {
		if n, e := Parse(c.s, c.most); n != c.n || e != c.e {
			t.Errorf("%q, %d: %d, %v", c.s, c.most, n, e)
		}
	}
	if Digits("") || Digits("1a") || !Digits("007") {
		t.Error("Digits")
	}
}
