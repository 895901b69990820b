package net

import (
	"slices"
	"strings"
	"testing"

	"toponym/api"
	"toponym/conf"
	"toponym/load"
	"toponym/look"
	"toponym/name"
	"toponym/rdata"
	"toponym/rec"
	"toponym/zone"
)

var files = []load.File{
	{Path: "root", Text: "$TTL 1\n@ NS a.\norg NS b.\n"},
	{Path: "org", Text: "$TTL 1\n@ NS b.\nx A 10.0.0.9\n"},
	{Path: "bad", Text: "a 1 A x\n"},
	{Path: "worse", Text: "\n)"},
}

func config(t *testing.T, text string) conf.Config {
	t.Helper()
	c, _, e := conf.Parse(text)
	if e != api.OK {
		t.Fatal(e)
	}
	return c
}

func TestP1601Load(t *testing.T) {
	c := config(t, "bound 3 4\nserver a. 10.0.0.1\nzone . root\nzone Org. org\nserver b. 10.0.0.2\nzone org. org\nserver c. 10.0.0.3\nroot b.\nroot a.\n")
	n, faults := Load(files, c)
	if len(faults) != 0 || len(n.Hosts) != 3 || !slices.Equal(n.Roots, []int{1, 0}) || n.Rewrites != 3 || n.Referrals != 4 {
		t.Fatal(n, faults)
	}
	if h := n.Hosts[0]; name.Text(h.Name) != "a." || h.Addr != [4]byte{10, 0, 0, 1} || len(h.Zones) != 2 || name.Text(h.Zones[1].Origin) != "Org." || len(h.Zones[1].Recs) != 2 {
		t.Error(h)
	}
	if len(n.Hosts[2].Zones) != 0 {
		t.Error("a server without zones")
	}
	l, _ := load.Load(files, "org", name.Name{"org"})
	if !rec.SameRow(n.Hosts[1].Zones[0].Recs, rec.Canon(l)) {
		t.Error("records")
	}
	n.Hosts[0].Name[0], n.Roots[0] = "x", 9
	if c.Servers[0].Host[0] != "a" || c.Roots[0] != 1 {
		t.Error("shared")
	}
}

func TestP1601LoadFaults(t *testing.T) {
	c := config(t, "bound 3 4\nserver a. 10.0.0.1\nzone . worse\nzone a. bad\nzone b. none\nserver b. 10.0.0.2\nzone c. bad\nzone d. org\nzone e. worse\nroot b.\n")
	n, faults := Load(files, c)
	var out []string
	for _, f := range faults {
		out = append(out, f.Error())
	}
	if s := strings.Join(out, "|"); s != "worse:2: form|bad:1: form|none:0: name" || len(n.Hosts) != 0 || len(n.Roots) != 0 || n.Rewrites != 0 || n.Referrals != 0 {
		t.Error(s, n)
	}
	c.Rewrites = 9
	n, faults = Load(files, c)
	if len(n.Hosts) != 0 || len(faults) != 1 || *faults[0] != (load.Fault{Err: api.ErrArg}) {
		t.Error(n, faults)
	}
}

func bare(origin ...string) zone.Zone {
	return zone.Zone{Origin: origin}
}

func TestP1601BestServesAsk(t *testing.T) {
	n := Net{Hosts: []Host{{Zones: []zone.Zone{bare("b", "c"), bare("c"), bare("A", "b", "c"), bare("d"), bare("D")}}, {Zones: []zone.Zone{bare()}}, {}}}
	for _, c := range []struct {
		s    int
		q    name.Name
		at   int
		want bool
	}{
		{0, name.Name{"x", "a", "B", "c"}, 2, true}, {0, name.Name{"x", "b", "c"}, 0, true}, {0, name.Name{"c"}, 1, true}, {0, name.Name{"d"}, 3, true},
		{0, nil, 0, false}, {0, name.Name{"e"}, 0, false}, {1, nil, 0, true}, {1, name.Name{"e"}, 0, true}, {2, nil, 0, false}, {3, nil, 0, false}, {-1, nil, 0, false},
	} {
		if at, ok := Best(n, c.s, c.q); at != c.at || ok != c.want || Serves(n, c.s, c.q) != c.want {
			t.Errorf("%d, %q: %d, %v", c.s, c.q, at, ok)
		}
		kind := look.Refuse
		if c.want {
			kind = look.Zone(n.Hosts[c.s].Zones[c.at], c.q, 1).Kind
		}
		if r := Ask(n, c.s, c.q, 1); r.Kind != kind {
			t.Errorf("%d, %q: %v", c.s, c.q, r)
		}
	}
	n.Hosts[2].Zones = []zone.Zone{zone.New(nil, []rec.Rec{{Owner: name.Name{"d"}, Data: rdata.Data{Type: 1, Raw: []byte{1, 2, 3, 4}}}})}
	if r := Ask(n, 2, name.Name{"D"}, 1); r.Kind != look.Answer || len(r.Data) != 1 {
		t.Error(r)
	}
}

func TestP1601Meant(t *testing.T) {
	n := Net{Hosts: []Host{{Name: name.Name{"a"}, Addr: [4]byte{10, 0, 0, 1}}, {Name: name.Name{"b"}, Addr: [4]byte{10, 0, 0, 2}}, {Name: name.Name{"A"}, Addr: [4]byte{10, 0, 0, 1}}, {Name: name.Name{"d"}, Addr: [4]byte{10, 0, 0, 4}}}}
	a := func(last byte) rdata.Data { return rdata.Data{Type: api.A, Raw: []byte{10, 0, 0, last}} }
	six := rdata.Data{Type: api.AAAA, Raw: []byte{10, 0, 0, 4}}
	for i, c := range []struct {
		host string
		glue []rdata.Data
		want []int
	}{
		{"A", nil, []int{0, 2}}, {"b", []rdata.Data{six}, []int{1}}, {"x", nil, nil}, {"a", []rdata.Data{a(2)}, []int{1}}, {"a", []rdata.Data{a(4), a(1)}, []int{0, 2, 3}},
		{"a", []rdata.Data{a(9)}, nil}, {"a", []rdata.Data{a(9), six}, nil}, {"a", []rdata.Data{{Type: api.A}}, nil}, {"a", []rdata.Data{{Type: api.A, Raw: []byte{10, 0, 0, 1, 0}}}, nil},
	} {
		if l := Meant(n, name.Name{c.host}, c.glue); !slices.Equal(l, c.want) {
			t.Errorf("%d: %v", i, l)
		}
	}
}
