package class

import (
	"slices"
	"strconv"
	"strings"
	"testing"

	"toponym/api"
	"toponym/close"
	"toponym/load"
	"toponym/name"
	"toponym/net"
	"toponym/zone"
)

func one(t *testing.T, text string) net.Net {
	t.Helper()
	l, f := load.Load([]load.File{{Path: "f", Text: "$TTL 1\n" + text}}, "f", nil)
	if f != nil {
		t.Fatal(f)
	}
	return net.Net{Hosts: []net.Host{{Zones: []zone.Zone{zone.New(nil, l)}}}, Rewrites: 1}
}

func TestP1901All(t *testing.T) {
	n := one(t, "A.b A 1.2.3.4\nc DNAME b.\n")
	l, e := All(n)
	names, _ := close.Close(n, api.MaxClasses)
	if e != api.OK || len(l) != 2*len(names) || len(names) != 5 {
		t.Fatal(l, e)
	}
	for i, c := range l {
		if !slices.Equal(c.Name, names[i/2]) || c.Other != (i%2 == 1) {
			t.Errorf("%d: %v", i, c)
		}
	}
	l[2].Name[0] = "z"
	if l[3].Name[0] != "b" {
		t.Error("two classes share")
	}
}

func TestP1901Many(t *testing.T) {
	n := net.Net{}
	for i := range api.MaxClasses - 1 {
		n.Hosts = append(n.Hosts, net.Host{Name: name.Name{strconv.Itoa(i)}})
	}
	if l, e := All(n); len(l) != 2*api.MaxClasses || e != api.OK {
		t.Error(len(l), e)
	}
	n.Hosts = append(n.Hosts, net.Host{Name: name.Name{"x"}})
	if l, e := All(n); len(l) != 0 || e != api.ErrMany {
		t.Error(len(l), e)
	}
}

func TestP1901Fresh(t *testing.T) {
	octets := "0123456789abcdefghijklmnopqrstuvwxyz"
	var want []string
	for _, a := range octets {
		want = append(want, string(a))
	}
	for _, a := range octets {
		for _, b := range octets {
			want = append(want, string(a)+string(b))
		}
	}
	want = append(want, "000", "")
	var kids []string
	for i, w := range want {
		if f := Fresh(kids); f != w {
			t.Fatalf("%d: %q, want %q", i, f, w)
		}
		kids = append([]string{strings.ToUpper(w)}, kids...)
	}
	if Fresh([]string{"1", "x"}) != "0" || Fresh([]string{"0", "0", "00"}) != "1" {
		t.Error("gaps")
	}
}

func TestP1901Of(t *testing.T) {
	l, _ := All(one(t, "A.b A 1.2.3.4\n"))
	for _, c := range []struct {
		q, at name.Name
		other bool
	}{{nil, nil, false}, {name.Name{"x"}, nil, true}, {name.Name{"y", "x"}, nil, true}, {name.Name{"B"}, name.Name{"b"}, false}, {name.Name{"x", "B"}, name.Name{"b"}, true}, {name.Name{"A", "b"}, name.Name{"a", "b"}, false}, {name.Name{"", "a", "b"}, name.Name{"a", "b"}, true}} {
		x, ok := Of(l, c.q)
		if !ok || !slices.Equal(x.Name, c.at) || x.Other != c.other {
			t.Errorf("%q: %v, %v", c.q, x, ok)
		}
	}
	if c, ok := Of(nil, name.Name{"a"}); ok || len(c.Name) != 0 || c.Other {
		t.Error(c, ok)
	}
}

func TestP1901Rep(t *testing.T) {
	l, _ := All(one(t, "0 A 1.2.3.4\n1.2 A 1.2.3.4\nQ.0 A 1.2.3.4\n"))
	for _, c := range []struct {
		c    Class
		want string
	}{{Class{nil, false}, "."}, {Class{name.Name{"2"}, false}, "2."}, {Class{nil, true}, "1."}, {Class{name.Name{"2"}, true}, "0.2."}, {Class{name.Name{"0"}, true}, "0.0."}, {Class{name.Name{"q", "0"}, true}, "0.q.0."}} {
		if r, ok := Rep(l, c.c); !ok || name.Text(r) != c.want {
			t.Errorf("%v: %q, %v", c.c, r, ok)
		}
	}
	x := strings.Repeat("x", 63)
	full := name.Name{strings.Repeat("x", 60), x, x, x}
	if r, ok := Rep(nil, Class{full, true}); ok || len(r) != 0 {
		t.Error(r, ok)
	}
	if r, ok := Rep(nil, Class{full, false}); !ok || len(r) != 4 {
		t.Error(r, ok)
	}
	full[0] = full[0][1:]
	if r, ok := Rep(nil, Class{full, true}); !ok || name.Len(r) != 253+2 {
		t.Error(r, ok)
	}
	full[0] += "x"
	if r, ok := Rep(nil, Class{full, true}); ok || len(r) != 0 {
		t.Error(r, ok)
	}
	var all []Class
	for kids := []string{}; ; {
		f := Fresh(kids)
		if f == "" {
			break
		}
		kids = append(kids, f)
		all = append(all, Class{Name: name.Name{f, "z"}})
	}
	if r, ok := Rep(all, Class{name.Name{"Z"}, true}); ok || len(r) != 0 {
		t.Error(r, ok)
	}
	if r, ok := Rep(all[1:], Class{name.Name{"Z"}, true}); !ok || name.Text(r) != "0.Z." {
		t.Error(r, ok)
	}
}
