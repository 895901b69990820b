package query

import (
	"slices"
	"strconv"
	"strings"
	"testing"

	"toponym/api"
	"toponym/class"
	"toponym/conf"
	"toponym/load"
	"toponym/name"
	"toponym/net"
	"toponym/rtype"
	"toponym/run"
	"toponym/step"
)

const config = "bound 1 2\nserver ns. 10.0.0.1\nzone . 0\nserver b. 10.0.0.2\nzone org. 1\nroot ns.\n"

func sample(t *testing.T) net.Net {
	t.Helper()
	c, _, e := conf.Parse(config)
	if e != api.OK {
		t.Fatal(e)
	}
	n, faults := net.Load([]load.File{{Path: "0", Text: "$TTL 1\norg NS b.\norg NS none.\nl CNAME l\n"}, {Path: "1", Text: "$TTL 1\nx A 1.2.3.4\n"}}, c)
	if len(faults) > 0 {
		t.Fatal(faults[0])
	}
	return n
}

func TestP2601Ask(t *testing.T) {
	n := sample(t)
	q := name.Name{"X", "org"}
	r := Ask(n, q, api.A)
	if !slices.Equal(r.Name, q) || r.Type != api.A || !slices.Equal(r.Kinds, []int{step.Found, step.Gone}) {
		t.Error(r)
	}
	r.Name[0] = "z"
	if q[0] != "X" {
		t.Error("shared")
	}
	if r := Ask(n, nil, 99); len(r.Name) != 0 || r.Type != 99 || !slices.Equal(r.Kinds, []int{step.Empty}) {
		t.Error(r)
	}
	n.Rewrites = 1 << 40
	if r := Ask(n, name.Name{"l"}, api.A); r.Name[0] != "l" || r.Type != api.A || len(r.Kinds) != 0 {
		t.Error(r)
	}
}

func TestP2601TableAndWith(t *testing.T) {
	n := sample(t)
	l, e := Table(n)
	all, _ := class.All(n)
	if e != api.OK || len(l) != len(all)*9 {
		t.Fatal(len(l), len(all), e)
	}
	for i, r := range l {
		rep, _ := class.Rep(all, all[i/9])
		ends, _, _ := run.Explore(n, rep, rtype.All()[i%9])
		if !name.Same(r.Name, rep) || r.Type != rtype.All()[i%9] || !slices.Equal(r.Kinds, run.Kinds(ends)) {
			t.Errorf("%d: %v", i, r)
		}
	}
	for end := range 12 {
		w, e := With(n, end)
		var want []Row
		for _, r := range l {
			if slices.Contains(r.Kinds, end) {
				want = append(want, r)
			}
		}
		same := func(a, b Row) bool {
			return name.Same(a.Name, b.Name) && a.Type == b.Type && slices.Equal(a.Kinds, b.Kinds)
		}
		if e != api.OK || !slices.EqualFunc(w, want, same) {
			t.Errorf("%d: %v, %v", end, w, e)
		}
	}
	if w, _ := With(n, step.Loop); len(w) == 0 {
		t.Error("a loop is there")
	}
}

func TestP2601ClassesWithoutRep(t *testing.T) {
	x := strings.Repeat("x", 63)
	n := net.Net{Hosts: []net.Host{{Name: name.Name{x, x, x, x[2:]}}}}
	l, e := Table(n)
	if e != api.OK || len(l) != 9*9 {
		t.Error(len(l), e)
	}
}

func TestP2601Errors(t *testing.T) {
	n := sample(t)
	n.Rewrites = 1 << 20
	if l, e := Table(n); len(l) != 0 || e != api.ErrMany {
		t.Error(len(l), e)
	}
	if l, e := With(n, step.Found); len(l) != 0 || e != api.ErrMany {
		t.Error(len(l), e)
	}
	n = sample(t)
	for i := range api.MaxClasses {
		n.Hosts = append(n.Hosts, net.Host{Name: name.Name{strconv.Itoa(i)}})
	}
	if l, e := Table(n); len(l) != 0 || e != api.ErrMany {
		t.Error(len(l), e)
	}
	if l, e := With(n, 1); len(l) != 0 || e != api.ErrMany {
		t.Error(len(l), e)
	}
}
