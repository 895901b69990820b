package rset

import (
	"slices"
	"testing"

	"toponym/api"
	"toponym/name"
	"toponym/rdata"
	"toponym/rec"
)

func host(owner string, ttl uint32, last byte) rec.Rec {
	return rec.Rec{Owner: name.Name{owner}, TTL: ttl, Data: rdata.Data{Type: api.A, Raw: []byte{10, 0, 0, last}}}
}

func to(owner string, t int, target string, ttl uint32) rec.Rec {
	return rec.Rec{Owner: name.Name{owner}, TTL: ttl, Data: rdata.Data{Type: t, Names: []name.Name{{target}}}}
}

func row() []rec.Rec {
	return []rec.Rec{host("b", 3, 9), to("A", api.NS, "z", 7), host("a", 5, 2), host("A", 6, 1), to("a", api.NS, "y", 9), host("a", 4, 2), host("a", 8, 3)}
}

func TestP601Sets(t *testing.T) {
	l := Sets(row())
	if len(l) != 3 {
		t.Fatal(l)
	}
	for i, want := range []struct {
		owner string
		t     int
		ttl   uint32
		data  int
	}{{"A", api.A, 4, 3}, {"a", api.NS, 7, 2}, {"b", api.A, 3, 1}} {
		if s := l[i]; s.Owner[0] != want.owner || s.Type != want.t || s.TTL != want.ttl || len(s.Data) != want.data {
			t.Errorf("%d: %v", i, s)
		}
	}
	if l[0].Data[0].Raw[3] != 1 || l[0].Data[2].Raw[3] != 3 || l[1].Data[0].Names[0][0] != "y" {
		t.Error("Data's order")
	}
	if len(Sets(nil)) != 0 {
		t.Error("of none")
	}
	in := row()
	Sets(in)[0].Data[0].Raw[3] = 99
	if in[3].Data.Raw[3] != 1 {
		t.Error("shared")
	}
}

func TestP601Of(t *testing.T) {
	s, ok := Of(row(), name.Name{"a"}, api.A)
	if !ok || s.Owner[0] != "A" || s.Type != api.A || s.TTL != 4 || len(s.Data) != 3 {
		t.Errorf("%v, %v", s, ok)
	}
	if s, ok := Of(row(), name.Name{"a"}, api.TXT); ok || s.Type != 0 || len(s.Owner) != 0 || s.TTL != 0 || len(s.Data) != 0 {
		t.Errorf("%v, %v", s, ok)
	}
	if _, ok := Of(row(), nil, api.A); ok {
		t.Error("the root has none")
	}
}

func TestP601Types(t *testing.T) {
	l := append(row(), rec.Rec{Owner: name.Name{"A"}, Data: rdata.Data{Type: -1}})
	if x := Types(l, name.Name{"a"}); !slices.Equal(x, []int{-1, api.A, api.NS}) {
		t.Error(x)
	}
	if len(Types(l, name.Name{"c"})) != 0 {
		t.Error("of none")
	}
}

func TestP601EqualAndTargets(t *testing.T) {
	a := Set{Owner: name.Name{"a"}, Type: api.NS, Data: []rdata.Data{to("", api.NS, "X", 0).Data, to("", api.NS, "y", 0).Data}}
	b := Set{TTL: 9, Data: []rdata.Data{to("", api.NS, "x", 0).Data, to("", api.NS, "Y", 0).Data}}
	if !Equal(a, b) || !Equal(Set{}, Set{Data: []rdata.Data{}}) || Equal(a, Set{Data: b.Data[:1]}) || Equal(a, Set{Data: []rdata.Data{b.Data[1], b.Data[0]}}) {
		t.Error("Equal")
	}
	for _, k := range []int{api.NS, api.CNAME, api.PTR, api.DNAME, api.MX} {
		s := Set{Type: k, Data: []rdata.Data{{Names: []name.Name{{"X"}, {"w"}}}, {}, {Names: []name.Name{{"y"}}}}}
		l := Targets(s)
		if len(l) != 2 || l[0][0] != "X" || l[1][0] != "y" {
			t.Errorf("%d: %v", k, l)
		}
		l[0][0] = "z"
		if s.Data[0].Names[0][0] != "X" {
			t.Error("shared")
		}
	}
	for _, k := range []int{api.SOA, api.A, api.TXT, 0, 99} {
		if len(Targets(Set{Type: k, Data: []rdata.Data{{Names: []name.Name{{"x"}}}}})) != 0 {
			t.Errorf("%d has none", k)
		}
	}
}
