package edge

import (
	"strconv"
	"strings"
	"testing"

	"toponym/api"
	"toponym/load"
	"toponym/name"
	"toponym/net"
	"toponym/rdata"
	"toponym/rec"
	"toponym/zone"
)

func z(t *testing.T, origin, text string) zone.Zone {
	t.Helper()
	o, _ := name.Parse(origin, nil)
	l, f := load.Load([]load.File{{Path: "f", Text: "$TTL 1\n" + text}}, "f", o)
	if f != nil {
		t.Fatal(f)
	}
	return zone.New(o, l)
}

func network(hosts ...[]zone.Zone) net.Net {
	var n net.Net
	for _, zs := range hosts {
		n.Hosts = append(n.Hosts, net.Host{Zones: zs})
	}
	return n
}

func show(l []Flaw) string {
	var out []string
	for _, f := range l {
		s := Word(f.Kind) + " " + name.Text(f.Parent) + " " + name.Text(f.Child)
		if len(f.Host) > 0 {
			s += " " + name.Text(f.Host)
		}
		out = append(out, s+" "+strconv.Itoa(f.Server))
	}
	return strings.Join(out, "|")
}

func TestP1701Cuts(t *testing.T) {
	x := z(t, "Org.", "@ NS a\nb NS a\nB NS c\na.b NS a\na NS a\nx.y NS a\nout. NS a\n. NS a\nq A 1.2.3.4\n")
	var out []string
	for _, c := range Cuts(x) {
		out = append(out, name.Text(c))
	}
	if s := strings.Join(out, " "); s != "a.Org. b.Org. x.y.Org." {
		t.Error(s)
	}
	if len(Cuts(zone.Zone{})) != 0 {
		t.Error("of none")
	}
	Cuts(x)[0][0] = "z"
	if name.Text(Cuts(x)[0]) != "a.Org." {
		t.Error("shared")
	}
}

func TestP1701Flaws(t *testing.T) {
	parent := z(t, ".", "@ NS r.\nC NS ns.c.\nC NS other.\nns.c A 10.0.0.1\n")
	same := z(t, "c.", "@ NS NS\n@ NS other.\nns A 10.0.0.1\n")
	for want, n := range map[string]net.Net{
		"":                                  network([]zone.Zone{parent}, []zone.Zone{same}),
		"nochild . C. 0":                    network([]zone.Zone{parent}),
		"nsdiffers . C. 1":                  network([]zone.Zone{parent}, []zone.Zone{z(t, "c.", "@ NS ns\n")}),
		"nsdiffers . C. 0|nsdiffers . C. 2": network([]zone.Zone{parent, z(t, "C.", "")}, []zone.Zone{same}, []zone.Zone{parent, z(t, "c.", "ns A 10.0.0.1\n")}),
		"gluediffers . C. ns.c. 1":          network([]zone.Zone{parent}, []zone.Zone{z(t, "c.", "@ NS ns\n@ NS other.\nns A 10.0.0.2\n")}, []zone.Zone{same}),
		"nsdiffers . C. 1|gluediffers . C. ns.c. 1":                                            network([]zone.Zone{parent}, []zone.Zone{z(t, "c.", "ns A 10.0.0.2\nns A 10.0.0.1\n")}, []zone.Zone{same}),
		"noglue . c. c. 0|noglue . c. a.c. 0|noglue . c. b.c. 0|nochild . c. 0|nochild . d. 0": network([]zone.Zone{z(t, ".", "c NS b.c\nc NS a.c\nc NS c\nb.c AAAA 1:0:0:0:0:0:0:0\nd NS x.c\n")}),
		"noglue . c. a.c. 0":                  network([]zone.Zone{z(t, ".", "c NS a.c\n")}, []zone.Zone{z(t, "c.", "@ NS a\na A 10.0.0.1\n"), z(t, "d.c.", "@ NS a\n")}),
		"nochild b. a.b. 0|nochild c. a.c. 0": network([]zone.Zone{z(t, "c.", "a NS x.\n")}, []zone.Zone{z(t, "b.", "a NS x.\nq.a NS y.\n")}, []zone.Zone{z(t, "C.", "a NS x.\n")}),
	} {
		if s := show(Flaws(n)); s != want {
			t.Errorf("%s; want %s", s, want)
		}
	}
	if len(Flaws(net.Net{})) != 0 {
		t.Error("of none")
	}
}

func TestP10OddRecords(t *testing.T) {
	long := strings.Repeat("x", 300)
	odd := zone.Zone{Recs: []rec.Rec{
		{Owner: name.Name{""}, Data: rdata.Data{Type: api.NS, Names: []name.Name{{long, ""}, {"b"}}}},
		{Owner: name.Name{""}, Data: rdata.Data{Type: api.NS}},
		{Owner: name.Name{long, ""}, Data: rdata.Data{Type: api.A, Raw: []byte{1}}},
	}}
	child := zone.Zone{Origin: name.Name{""}, Recs: []rec.Rec{{Owner: name.Name{long, ""}, Data: rdata.Data{Type: api.A}}}}
	l := Flaws(network([]zone.Zone{odd}, []zone.Zone{child}))
	if len(l) != 2 || l[0].Kind != NSDiffers || l[1].Kind != GlueDiffers || l[1].Host[0] != long {
		t.Error(show(l))
	}
}

func TestP1701WordAndCompare(t *testing.T) {
	words := []string{"", "nsdiffers", "gluediffers", "noglue", "nochild", ""}
	for k, w := range words {
		if Word(k) != w {
			t.Error(k)
		}
	}
	a, b := name.Name{"A"}, name.Name{"b"}
	rising := []Flaw{{}, {Parent: a, Server: 9}, {Parent: name.Name{"a"}, Child: a, Kind: 2, Host: b, Server: 5}, {Parent: a, Child: a, Kind: 3, Host: a, Server: 1}, {Parent: a, Child: a, Kind: 3, Host: a, Server: 2}, {Parent: a, Child: a, Kind: 3, Host: b, Server: 0}, {Parent: a, Child: b}, {Parent: b}}
	for i, x := range rising {
		for k, y := range rising {
			want := 0
			if i < k {
				want = -1
			} else if i > k {
				want = 1
			}
			if Compare(x, y) != want {
				t.Error(x, y)
			}
		}
	}
}
