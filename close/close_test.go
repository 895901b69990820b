package close

import (
	"strings"
	"testing"

	"toponym/api"
	"toponym/load"
	"toponym/name"
	"toponym/net"
	"toponym/rdata"
	"toponym/rec"
	"toponym/zone"
)

func z(t *testing.T, origin, text string) zone.Zone {
	t.Helper()
	o, _ := name.Parse(origin, nil)
	l, f := load.Load([]load.File{{Path: "f", Text: "$TTL 1\n" + text}}, "f", o)
	if f != nil {
		t.Fatal(f)
	}
	return zone.New(o, l)
}

func show(l []name.Name) string {
	var out []string
	for _, n := range l {
		out = append(out, name.Text(n))
	}
	return strings.Join(out, " ")
}

func one(rewrites int, zs ...zone.Zone) net.Net {
	return net.Net{Hosts: []net.Host{{Name: name.Name{"Ns", "h"}, Zones: zs}}, Rewrites: rewrites}
}

func TestP1801Base(t *testing.T) {
	n := one(0, z(t, "Org.", "@ SOA m.Q. R 1 1 1 1 1\n*.a.b MX 1 X.y.\nout. A 1.2.3.4\n"), z(t, "Lone.", ""))
	if s := show(Base(n)); s != ". h. ns.h. lone. org. b.org. a.b.org. *.a.b.org. r.org. out. q. m.q. y. x.y." {
		t.Error(s)
	}
	if s := show(Base(net.Net{})); s != "." {
		t.Error(s)
	}
	odd := net.Net{Hosts: []net.Host{{Name: name.Name{"A", ""}}, {Zones: []zone.Zone{{Recs: []rec.Rec{{Owner: name.Name{""}, Data: rdata.Data{Type: -1, Names: []name.Name{{"Z"}, {"b"}}}}}}}}}}
	if s := show(Base(odd)); s != ". . a.. b. z." {
		t.Error(s)
	}
}

func TestP1801Renames(t *testing.T) {
	n := one(0, z(t, "Org.", "a DNAME T.\nA DNAME s.\nb CNAME c.\n"), z(t, ".", "z. DNAME a.\na.org. DNAME t.\n"), z(t, "b.", "@ DNAME q.\n@ DNAME B.\n"))
	var out []string
	for _, r := range Renames(n) {
		out = append(out, name.Text(r[0])+">"+name.Text(r[1]))
	}
	if s := strings.Join(out, " "); s != "b.>b. b.>q. a.org.>s. a.org.>t. z.>a." {
		t.Error(s)
	}
	odd := net.Net{Hosts: []net.Host{{Zones: []zone.Zone{{Recs: []rec.Rec{{Data: rdata.Data{Type: api.DNAME}}}}}}}}
	if len(Renames(odd)) != 0 || len(Renames(net.Net{})) != 0 {
		t.Error("of none")
	}
}

func TestP1801Close(t *testing.T) {
	x := z(t, ".", "a DNAME b.\nc DNAME a.\nq.w.b A 1.2.3.4\n")
	for rewrites, want := range map[int]string{
		-1: ". a. b. w.b. q.w.b. c. h. ns.h.",
		0:  ". a. b. w.b. q.w.b. c. h. ns.h.",
		1:  ". a. w.a. q.w.a. b. w.b. q.w.b. c. h. ns.h.",
		2:  ". a. w.a. q.w.a. b. w.b. q.w.b. c. w.c. q.w.c. h. ns.h.",
		8:  ". a. w.a. q.w.a. b. w.b. q.w.b. c. w.c. q.w.c. h. ns.h.",
	} {
		count := strings.Count(want, " ") + 1
		for most := -1; most < 20; most++ {
			l, e := Close(one(rewrites, x), most)
			if most < count && (e != api.ErrMany || len(l) != 0) || most >= count && (e != api.OK || show(l) != want) {
				t.Errorf("%d, %d: %s, %v", rewrites, most, show(l), e)
			}
		}
	}
}

func TestP1801CloseGrows(t *testing.T) {
	x := z(t, ".", "a.a DNAME a.\n")
	n := one(1<<62, x)
	n.Hosts[0].Name = nil
	l, e := Close(n, 4096)
	if e != api.OK || len(l) != 128 {
		t.Errorf("%d, %v", len(l), e)
	}
	n = one(1<<62, z(t, ".", "a.a DNAME a.\nb.a DNAME a.\n"))
	if _, e := Close(n, 4096); e != api.ErrMany {
		t.Error(e)
	}
	long := strings.Repeat("x", 63)
	n = one(1, z(t, ".", long+"."+long+"."+long+" DNAME t.\n"+long+".t A 1.2.3.4\nu.t A 1.2.3.4\n"))
	l, e = Close(n, 4096)
	if e != api.OK || len(l) != 10 {
		t.Error(show(l), e)
	}
}
