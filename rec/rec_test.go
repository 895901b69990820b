package rec

import (
	"testing"

	"toponym/api"
	"toponym/name"
	"toponym/rdata"
)

func host(owner string, ttl uint32, last byte) Rec {
	return Rec{Owner: name.Name{owner}, TTL: ttl, Data: rdata.Data{Type: api.A, Raw: []byte{10, 0, 0, last}}}
}

func ns(owner, target string, ttl uint32) Rec {
	return Rec{Owner: name.Name{owner}, TTL: ttl, Data: rdata.Data{Type: api.NS, Names: []name.Name{{target}}}}
}

func TestP501Check(t *testing.T) {
	r := host("a", api.MaxTTL, 1)
	if e := Check(r); e != api.OK {
		t.Error(e)
	}
	r.TTL++
	if e := Check(r); e != api.ErrOver {
		t.Error(e)
	}
	r.Data.Raw = nil
	if e := Check(r); e != api.ErrOver {
		t.Error(e)
	}
	r.TTL = 0
	if e := Check(r); e != api.ErrForm {
		t.Error(e)
	}
	r.Owner = name.Name{""}
	r.TTL = api.MaxTTL + 1
	if e := Check(r); e != api.ErrEmpty {
		t.Error(e)
	}
}

func TestP501Compare(t *testing.T) {
	rising := []Rec{host("a", 9, 1), host("A", 0, 2), ns("a", "a", 5), ns("a", "B", 5), host("b", 0, 0)}
	for i, a := range rising {
		for k, b := range rising {
			want := 0
			if i < k {
				want = -1
			} else if i > k {
				want = 1
			}
			if c := Compare(a, b); c != want || Same(a, b) != (i == k) {
				t.Errorf("%v, %v: %d", a, b, c)
			}
		}
	}
	if !Same(ns("A", "b", 1), ns("a", "B", 2)) || Compare(ns("A", "b", 1), ns("a", "B", 2)) != 0 {
		t.Error("folded, whatever the TTL")
	}
}

func TestP501Canon(t *testing.T) {
	l := []Rec{ns("b", "X", 7), host("a", 5, 2), ns("B", "x", 3), host("a", 4, 1), ns("b", "x", 9)}
	out := Canon(l)
	want := []string{"a. 4 IN A 10.0.0.1", "a. 5 IN A 10.0.0.2", "b. 3 IN NS X."}
	if len(out) != len(want) {
		t.Fatal(out)
	}
	for i, r := range out {
		if Text(r) != want[i] {
			t.Errorf("%d: %s", i, Text(r))
		}
	}
	out[2].Owner[0], out[2].Data.Names[0][0], out[0].Data.Raw[0] = "z", "z", 99
	if l[0].Owner[0] != "b" || l[0].Data.Names[0][0] != "X" || l[3].Data.Raw[0] != 10 || l[1].Owner[0] != "a" {
		t.Error("what was handed in is changed")
	}
	if len(Canon(nil)) != 0 {
		t.Error("of none")
	}
	odd := []Rec{{Owner: name.Name{"", ""}, TTL: 4294967295, Data: rdata.Data{Type: -3, Texts: []string{"x"}}}, {}, {Owner: name.Name{"", ""}, TTL: 4294967294, Data: rdata.Data{Type: -3, Texts: []string{"x"}}}}
	if c := Canon(odd); len(c) != 2 || len(c[0].Owner) != 0 || c[1].TTL != 4294967294 {
		t.Errorf("what Check refuses: %v", c)
	}
}

func TestP501Text(t *testing.T) {
	r := Rec{Owner: name.Name{"$x", "A"}, TTL: 60, Data: rdata.Data{Type: 300, Raw: []byte{1}}}
	if s := Text(r); s != `\$x.A. 60 IN TYPE300 \# 1 01` {
		t.Error(s)
	}
}

func TestP501SameRow(t *testing.T) {
	a := []Rec{ns("a", "b", 1), host("c", 2, 1)}
	if !SameRow(a, []Rec{ns("A", "B", 1), host("C", 2, 1)}) || !SameRow(nil, []Rec{}) {
		t.Error("alike")
	}
	for _, b := range [][]Rec{a[:1], {a[1], a[0]}, {ns("a", "b", 2), a[1]}, {ns("a", "c", 1), a[1]}, {a[0], a[1], a[1]}} {
		if SameRow(a, b) {
			t.Errorf("%v", b)
		}
	}
}
