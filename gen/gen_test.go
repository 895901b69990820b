package gen

import (
	"math"
	"slices"
	"strings"
	"testing"

	"toponym/api"
)

func TestP801Parse(t *testing.T) {
	for s, want := range map[string]Range{"0-0": {0, 0, 1}, "1-10": {1, 10, 1}, "5-5/7": {5, 5, 7}, "0-2147483647/2147483647": {0, 2147483647, 2147483647}} {
		if r, e := Parse(s); r != want || e != api.OK {
			t.Errorf("%q: %v, %v", s, r, e)
		}
	}
	for s, want := range map[string]api.Errno{"": api.ErrForm, "1": api.ErrForm, "1-": api.ErrForm, "-1": api.ErrForm, "1-2/": api.ErrForm, "1-2/3/4": api.ErrForm, "1-2-3": api.ErrForm, "01-2": api.ErrForm, "1-02": api.ErrForm, "1-2/01": api.ErrForm, " 1-2": api.ErrForm, "1-2 ": api.ErrForm, "a-b": api.ErrForm, "1/2": api.ErrForm, "1/2-3": api.ErrForm,
		"2147483648-1": api.ErrOver, "1-2147483648": api.ErrOver, "1-2/99999999999999999999": api.ErrOver, "2147483648-x": api.ErrForm, "x-2147483648": api.ErrForm, "1-x/2147483648": api.ErrForm, "2147483648-1/00": api.ErrForm, "2147483648-1/0": api.ErrOver,
		"2-1": api.ErrArg, "1-2/0": api.ErrArg, "2-1/0": api.ErrArg} {
		if r, e := Parse(s); r != (Range{}) || e != want {
			t.Errorf("%q: %v, %v, want %v", s, r, e, want)
		}
	}
}

func TestP801Numbers(t *testing.T) {
	for _, c := range []struct {
		r    Range
		want []int
	}{{Range{0, 0, 1}, []int{0}}, {Range{1, 4, 1}, []int{1, 2, 3, 4}}, {Range{1, 6, 3}, []int{1, 4}}, {Range{1, 7, 3}, []int{1, 4, 7}}, {Range{2, 2147483647, math.MaxInt}, []int{2}}, {Range{1, 2147483647, 2147483646}, []int{1, 2147483647}}} {
		if l, e := Numbers(c.r); !slices.Equal(l, c.want) || e != api.OK {
			t.Errorf("%v: %v, %v", c.r, l, e)
		}
	}
	if l, e := Numbers(Range{1, 4096, 1}); len(l) != 4096 || e != api.OK {
		t.Error("MaxRecs")
	}
	for r, want := range map[Range]api.Errno{{-1, 1, 1}: api.ErrArg, {2, 1, 1}: api.ErrArg, {1, 2, 0}: api.ErrArg, {1, 2, -1}: api.ErrArg, {1, 2147483648, 1 << 40}: api.ErrArg, {}: api.ErrArg, {0, 4096, 1}: api.ErrMany, {0, 2147483647, 1}: api.ErrMany, {0, 8192, 2}: api.ErrMany, {math.MinInt, math.MaxInt, 1}: api.ErrArg} {
		if l, e := Numbers(r); len(l) != 0 || e != want {
			t.Errorf("%v: %v, %v", r, l, e)
		}
	}
	if l, e := Numbers(Range{0, 8191, 2}); len(l) != 4096 || e != api.OK {
		t.Error("with steps")
	}
}

func TestP801Put(t *testing.T) {
	for _, c := range []struct {
		s    string
		n    int
		want string
	}{
		{"", 1, ""}, {"abc", 1, "abc"}, {"a$b", 12, "a12b"}, {"$", 0, "0"}, {"$", -5, "-5"}, {"$", 1 << 40, "1099511627776"}, {"$.$", 3, "3.3"},
		{`\$`, 1, `\$`}, {`\\$`, 1, `\\$`}, {`\a\`, 1, `\a\`}, {`\\a$`, 1, `\\a1`}, {`\$$`, 7, `\$7`}, {"$$", 1, "$"}, {"$$$", 5, "$5"}, {"$$$$", 5, "$$"}, {"$${0}", 5, "${0}"}, {`\${0}`, 5, `\${0}`},
		{"${0}", 5, "5"}, {"${3}x", 5, "8x"}, {"${-5}", 5, "0"}, {"${-0}", 5, "5"}, {"${0,3}", 5, "005"}, {"${0,1}", 500, "500"}, {"${0,0}", 0, "0"},
		{"${0,4,d}", 17, "0017"}, {"${0,4,o}", 17, "0021"}, {"${0,4,x}", 171, "00ab"}, {"${1,0,X}", 170, "AB"}, {"${0,63}", 1, strings.Repeat("0", 62) + "1"},
		{"${2147483647}", 0, "2147483647"}, {"${-2147483647}", 1<<32 - 2, "2147483647"}, {"${2147483647}", -2147483647, "0"}, {"a}", 1, "a}"}, {"{0}", 1, "{0}"},
	} {
		if s, e := Put(c.s, c.n); s != c.want || e != api.OK {
			t.Errorf("%q, %d: %q, %v", c.s, c.n, s, e)
		}
	}
	for _, c := range []struct {
		s    string
		n    int
		want api.Errno
	}{
		{"${", 1, api.ErrForm}, {"${0", 1, api.ErrForm}, {"${}", 1, api.ErrForm}, {"${0,}", 1, api.ErrForm}, {"${,1}", 1, api.ErrForm}, {"${0,1,}", 1, api.ErrForm}, {"${0,1,D}", 1, api.ErrForm}, {"${0,1,xX}", 1, api.ErrForm}, {"${0,1,x,}", 1, api.ErrForm}, {"${00}", 1, api.ErrForm}, {"${+1}", 1, api.ErrForm}, {"${-}", 1, api.ErrForm}, {"${--1}", 1, api.ErrForm}, {"${-01}", 1, api.ErrForm}, {"${0,01}", 1, api.ErrForm}, {"${0,-1}", 1, api.ErrForm}, {"${ 0}", 1, api.ErrForm}, {"${0,1,n}", 1, api.ErrForm},
		{"${2147483648}", 0, api.ErrOver}, {"${-2147483648}", 1 << 31, api.ErrOver}, {"${0,64}", 0, api.ErrOver}, {"${0,99999999999999999999}", 0, api.ErrOver}, {"${2147483648,64,z}", 0, api.ErrForm}, {"${-1,64}", 0, api.ErrOver},
		{"${-1}", 0, api.ErrOver}, {"${0}", -1, api.ErrOver}, {"${1}", 2147483647, api.ErrOver}, {"${0}", 1 << 31, api.ErrOver}, {"${1}", math.MaxInt, api.ErrOver}, {"${-1}", math.MinInt, api.ErrOver},
		{"${-1}${", 0, api.ErrOver}, {"${x}${-1}", 0, api.ErrForm},
	} {
		if s, e := Put(c.s, c.n); s != "" || e != c.want {
			t.Errorf("%q, %d: %q, %v, want %v", c.s, c.n, s, e, c.want)
		}
	}
}
