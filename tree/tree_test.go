package tree

import (
	"math/rand"
	"slices"
	"strings"
	"testing"

	"toponym/name"
)

func show(l []name.Name) string {
	var out []string
	for _, n := range l {
		out = append(out, name.Text(n))
	}
	return strings.Join(out, " ")
}

func TestP1101(t *testing.T) {
	x := New[int]()
	if x.Len() != 1 || !x.Has(nil) || show(x.Names()) != "." || x.Has(name.Name{"a"}) || len(x.Kids(nil)) != 0 {
		t.Error("a new one has the root alone")
	}
	if v, ok := x.Get(nil); v != 0 || ok {
		t.Error("the root was given nothing")
	}
	in := name.Name{"A", "b", "C"}
	x.Put(in, 5)
	in[0] = "changed"
	x.Put(name.Name{"Z", "c"}, 7)
	x.Put(name.Name{"*", "c"}, 0)
	x.Put(name.Name{"\x00", "c"}, 3)
	if s := show(x.Names()); s != `. c. \000.c. *.c. b.c. a.b.c. z.c.` {
		t.Error(s)
	}
	if x.Len() != 7 {
		t.Error(x.Len())
	}
	for _, c := range []struct {
		n  name.Name
		v  int
		ok bool
	}{{name.Name{"a", "B", "c"}, 5, true}, {name.Name{"*", "C"}, 0, true}, {name.Name{"b", "c"}, 0, false}, {name.Name{"x", "a", "b", "c"}, 0, false}, {nil, 0, false}} {
		if v, ok := x.Get(c.n); v != c.v || ok != c.ok {
			t.Errorf("%q: %d, %v", c.n, v, ok)
		}
	}
	if !x.Has(name.Name{"B", "c"}) || x.Has(name.Name{"a", "c"}) {
		t.Error("Has")
	}
	for want, n := range map[string]name.Name{".": {"c", "x"}, "c.": {"b", "x", "C"}, "a.b.c.": {"q", "r", "A", "B", "C"}, "z.c.": {"Z", "C"}} {
		if d := x.Deepest(n); name.Text(d) != want {
			t.Errorf("%q: %q", n, d)
		}
	}
	if l := x.Kids(name.Name{"C"}); !slices.Equal(l, []string{"\x00", "*", "b", "z"}) {
		t.Errorf("%q", l)
	}
	if l := x.Kids(name.Name{"no"}); len(l) != 0 {
		t.Errorf("%q", l)
	}
	x.Put(name.Name{"a", "b", "c"}, 6)
	x.Put(nil, 9)
	if v, ok := x.Get(name.Name{"a", "b", "c"}); v != 6 || !ok || x.Len() != 7 {
		t.Error("put again")
	}
	if v, ok := x.Get(nil); v != 9 || !ok {
		t.Error("the root's value")
	}
}

func TestP10NamesThatCheckRefuses(t *testing.T) {
	x := New[string]()
	long := strings.Repeat("X", 300)
	x.Put(name.Name{"", long, ""}, "odd")
	if v, ok := x.Get(name.Name{"", strings.ToLower(long), ""}); v != "odd" || !ok || x.Len() != 4 {
		t.Error(v, ok)
	}
	deep := name.Name(slices.Repeat([]string{"a"}, 3000))
	x.Put(deep, "deep")
	if !x.Has(deep[1:]) || x.Len() != 3004 || len(x.Names()) != 3004 {
		t.Error("deep")
	}
}

func TestP1101AgainstLists(t *testing.T) {
	r := rand.New(rand.NewSource(11))
	for range 300 {
		x := New[int]()
		var there []name.Name
		add := func(n name.Name) {
			if !slices.ContainsFunc(there, func(o name.Name) bool { return name.Same(n, o) }) {
				there = append(there, n)
			}
		}
		add(nil)
		for range r.Intn(10) {
			var n name.Name
			for range r.Intn(4) {
				n = append(n, string("aAbB*"[r.Intn(5)]))
			}
			x.Put(n, 1)
			for m := n; len(m) > 0; m = m[1:] {
				add(name.Fold(m))
			}
		}
		slices.SortFunc(there, name.Compare)
		if x.Len() != len(there) || show(x.Names()) != show(there) {
			t.Fatalf("%s; %s", show(x.Names()), show(there))
		}
	}
}
