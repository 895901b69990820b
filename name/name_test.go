package name

import (
	"slices"
	"strings"
	"testing"

	"toponym/api"
)

var long63 = strings.Repeat("x", 63)

func TestP201CheckAndLen(t *testing.T) {
	full := Name{long63, long63, long63, strings.Repeat("x", 61)}
	if Len(full) != 255 || Check(full) != api.OK {
		t.Errorf("full: %d, %v", Len(full), Check(full))
	}
	over := Name{long63, long63, long63, strings.Repeat("x", 62)}
	if Len(over) != 256 || Check(over) != api.ErrLong {
		t.Errorf("over: %d, %v", Len(over), Check(over))
	}
	if Len(nil) != 1 || Check(nil) != api.OK || Len(Name{"a", "bc"}) != 6 {
		t.Error("Len")
	}
	if e := Check(Name{"a", "", long63 + "x"}); e != api.ErrEmpty {
		t.Error(e)
	}
	if e := Check(Name{"a", long63 + "x", ""}); e != api.ErrLong {
		t.Error(e)
	}
	if e := Check(append(slices.Clone(over), "")); e != api.ErrEmpty {
		t.Error(e)
	}
}

func TestP201Text(t *testing.T) {
	for want, n := range map[string]Name{".": nil, "a.": {"a"}, "A.b.": {"A", "b"}, "\\..\\000.": {".", "\x00"}, "*.\\@.": {"*", "@"}} {
		if s := Text(n); s != want {
			t.Errorf("%q: %q", n, s)
		}
		if back, e := Parse(want, Name{"o"}); !slices.Equal(back, n) || e != api.OK {
			t.Errorf("%q: %q, %v", want, back, e)
		}
	}
}

func TestP201Parse(t *testing.T) {
	o := Name{"Org", "test"}
	for s, want := range map[string]Name{"@": o, ".": nil, "a": {"a", "Org", "test"}, "a.": {"a"}, "a\\.b.c": {"a.b", "c", "Org", "test"}, "\\@": {"@", "Org", "test"}, "a\\..": {"a."}} {
		if n, e := Parse(s, o); !slices.Equal(n, want) || e != api.OK {
			t.Errorf("%q: %q, %v", s, n, e)
		}
	}
	for s, want := range map[string]api.Errno{"": api.ErrEmpty, "..": api.ErrEmpty, ".a": api.ErrEmpty, "a..b": api.ErrEmpty, "a..": api.ErrEmpty, "a\\": api.ErrForm, ".\\": api.ErrForm, "\\256": api.ErrOver, "\\1": api.ErrForm, long63 + "x": api.ErrLong, "a..\\256": api.ErrEmpty, "\\256..": api.ErrOver, strings.Repeat("x.", 128): api.ErrLong, strings.Repeat("x.", 127): api.OK, strings.Repeat("x.", 122) + "x": api.ErrLong} {
		if n, e := Parse(s, o); e != want || e != api.OK && len(n) != 0 {
			t.Errorf("%q: %q, %v, want %v", s, n, e, want)
		}
	}
	odd := Name{"", long63 + "x"}
	if n, e := Parse("@", odd); !slices.Equal(n, odd) || e != api.OK {
		t.Errorf("@ stays as it is: %q, %v", n, e)
	}
	if _, e := Parse("a", odd); e != api.ErrEmpty {
		t.Error(e)
	}
	n, _ := Parse("@", o)
	n[0] = "changed"
	if o[0] != "Org" {
		t.Error("origin is shared")
	}
}

func TestP201Order(t *testing.T) {
	rising := []Name{{}, {""}, {"a", ""}, {"A"}, {"z", "a"}, {"a", "z", "a"}, {"*", "b"}, {"a", "B"}, {"c"}, {"\xff"}}
	for i, a := range rising {
		for k, b := range rising {
			want := 0
			if i < k {
				want = -1
			} else if i > k {
				want = 1
			}
			if c := Compare(a, b); c != want {
				t.Errorf("%q, %q: %d", a, b, c)
			}
			if Same(a, b) != (i == k) {
				t.Errorf("Same %q, %q", a, b)
			}
		}
	}
	if !Same(Name{"A", "b"}, Name{"a", "B"}) || Compare(Name{"A", "b"}, Name{"a", "B"}) != 0 || Same(Name{"a.b"}, Name{"a", "b"}) {
		t.Error("folded")
	}
	if f := Fold(Name{"Ab", "C"}); !slices.Equal(f, Name{"ab", "c"}) {
		t.Error(f)
	}
}

func TestP201Under(t *testing.T) {
	n := Name{"a", "B", "c"}
	for _, z := range []Name{nil, {"C"}, {"b", "c"}, {"A", "b", "C"}} {
		if !Under(n, z) {
			t.Errorf("%q", z)
		}
	}
	for _, z := range []Name{{"b"}, {"a", "c"}, {"x", "a", "b", "c"}, {"bc"}} {
		if Under(n, z) {
			t.Errorf("%q", z)
		}
	}
}

func TestP201Parts(t *testing.T) {
	n := Name{"a", "b"}
	if p := Parent(n); !slices.Equal(p, Name{"b"}) || len(Parent(nil)) != 0 || len(Parent(Name{"a"})) != 0 {
		t.Error("Parent")
	}
	if c := Child("x", n); !slices.Equal(c, Name{"x", "a", "b"}) || !slices.Equal(Child("x", nil), Name{"x"}) {
		t.Error("Child")
	}
	if c := Common(Name{"x", "A", "b"}, Name{"y", "a", "B"}); !slices.Equal(c, Name{"A", "b"}) {
		t.Errorf("%q", c)
	}
	if len(Common(n, Name{"a"})) != 0 || !slices.Equal(Common(Name{"b"}, n), Name{"b"}) || !slices.Equal(Common(n, Name{"B"}), Name{"b"}) {
		t.Error("Common")
	}
	if !Wild(Name{"*"}) || !Wild(Name{"*", "a"}) || Wild(nil) || Wild(Name{"a", "*"}) || Wild(Name{"**"}) {
		t.Error("Wild")
	}
	p := Parent(n)
	if p = append(p, "z"); n[1] != "b" || len(p) != 2 {
		t.Error("Parent shares")
	}
}

func TestP201Swap(t *testing.T) {
	n, e := Swap(Name{"x", "A", "b"}, Name{"a", "B"}, Name{"c"})
	if !slices.Equal(n, Name{"x", "c"}) || e != api.OK {
		t.Errorf("%q, %v", n, e)
	}
	if n, e := Swap(Name{"a"}, Name{"a"}, nil); len(n) != 0 || e != api.OK {
		t.Errorf("%q, %v", n, e)
	}
	if n, e := Swap(Name{"a"}, Name{"b"}, Name{"c"}); len(n) != 0 || e != api.ErrZone {
		t.Errorf("%q, %v", n, e)
	}
	big := Name{long63, long63, long63, strings.Repeat("x", 59)}
	if n, e := Swap(Name{"y", "a"}, Name{"a"}, big); Len(n) != 255 || e != api.OK {
		t.Errorf("%d, %v", Len(n), e)
	}
	for _, from := range []Name{{"yy", "a"}, {"", "a"}, {long63 + "x", "a"}} {
		if n, e := Swap(from, Name{"a"}, big); len(n) != 0 || e != api.ErrOver {
			t.Errorf("%q, %v", n, e)
		}
	}
}
