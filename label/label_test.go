package label

import (
	"slices"
	"strings"
	"testing"

	"toponym/api"
)

func TestP101Check(t *testing.T) {
	for l, want := range map[string]api.Errno{"": api.ErrEmpty, "a": api.OK, "\x00": api.OK, strings.Repeat("x", 63): api.OK, strings.Repeat("x", 64): api.ErrLong} {
		if e := Check(l); e != want {
			t.Errorf("%q: %v, want %v", l, e, want)
		}
	}
}

func TestP101TextOfEveryOctet(t *testing.T) {
	for c := range 256 {
		l := string([]byte{byte(c)})
		s := Text(l)
		switch {
		case strings.Contains(".\\\"();@$", l):
			if s != "\\"+l {
				t.Errorf("%q: %q", l, s)
			}
		case c >= 0x21 && c <= 0x7e:
			if s != l {
				t.Errorf("%q: %q", l, s)
			}
		default:
			if len(s) != 4 || s[0] != '\\' {
				t.Errorf("%q: %q", l, s)
			}
		}
		if back, e := Parse(s); back != l || e != api.OK {
			t.Errorf("%q: back %q, %v", l, back, e)
		}
	}
}

func TestP101Parse(t *testing.T) {
	for s, want := range map[string]string{"a": "a", "\\a": "a", "\\.": ".", "\\000": "\x00", "\\255x": "\xffx", "\\0991": "c1", "@": "@", "\xc3\\\xc3": "\xc3\xc3"} {
		if l, e := Parse(s); l != want || e != api.OK {
			t.Errorf("%q: %q, %v", s, l, e)
		}
	}
	for s, want := range map[string]api.Errno{"": api.ErrEmpty, ".": api.ErrForm, "\\": api.ErrForm, "\\0": api.ErrForm, "\\00": api.ErrForm, "\\00x": api.ErrForm, "\\256": api.ErrOver, "\\256.": api.ErrOver, ".\\256": api.ErrForm, strings.Repeat("\\065", 64): api.ErrLong, strings.Repeat("a", 64) + "\\": api.ErrForm, strings.Repeat("a", 64) + "\\300": api.ErrOver} {
		if l, e := Parse(s); l != "" || e != want {
			t.Errorf("%q: %q, %v, want %v", s, l, e, want)
		}
	}
}

func TestP101FoldSameCompare(t *testing.T) {
	if s := Fold("@AZ[`az{\xc1"); s != "@az[`az{\xc1" {
		t.Errorf("%q", s)
	}
	if !Same("wWw", "WwW") || Same("a", "b") || Same("a", "aa") || Same("\xc1", "\xe1") {
		t.Error("Same")
	}
	rising := []string{"", "\x00", "0", "[", "A", "a0", "AB", "b", "\x80", "\xff"}
	for i, a := range rising {
		for k, b := range rising {
			want := 0
			if i < k {
				want = -1
			} else if i > k {
				want = 1
			}
			if c := Compare(a, b); c != want {
				t.Errorf("%q, %q: %d", a, b, c)
			}
		}
	}
}

func TestP101Split(t *testing.T) {
	for s, want := range map[string][]string{"": {""}, ".": {"", ""}, "a": {"a"}, "a.b.": {"a", "b", ""}, "a\\.b.c": {"a\\.b", "c"}, "\\\\.\\256": {"\\\\", "\\256"}, "\\1.b": {"\\1", "b"}} {
		if p, e := Split(s); !slices.Equal(p, want) || e != api.OK {
			t.Errorf("%q: %q, %v", s, p, e)
		}
	}
	for _, s := range []string{"\\", "a.b\\", "\\\\\\"} {
		if p, e := Split(s); len(p) != 0 || e != api.ErrForm {
			t.Errorf("%q: %q, %v", s, p, e)
		}
	}
}
