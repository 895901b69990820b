package check

import (
	"strings"
	"testing"

	"toponym/api"
	"toponym/name"
	"toponym/rdata"
	"toponym/rec"
	"toponym/rtype"
	"toponym/zone"
)

var org = name.Name{"Org"}

// rows makes records: each text an owner, a type and what makes the data another one.
func rows(l ...string) []rec.Rec {
	var out []rec.Rec
	for _, s := range l {
		w := strings.Fields(s)
		owner, e := name.Parse(w[0], org)
		if e != api.OK {
			panic(s)
		}
		t, e := rtype.Parse(w[1])
		if e != api.OK {
			panic(s)
		}
		d := rdata.Data{Type: t}
		if len(w) > 2 {
			d.Names = []name.Name{{w[2]}}
		}
		out = append(out, rec.Rec{Owner: owner, Data: d})
	}
	return out
}

func show(l []Flaw) string {
	var out []string
	for _, f := range l {
		out = append(out, Word(f.Kind)+" "+name.Text(f.Owner)+" "+rtype.Text(f.Type))
	}
	return strings.Join(out, "|")
}

func TestP1301Zone(t *testing.T) {
	for _, c := range []struct {
		want string
		l    []string
	}{
		{"nosoa Org. SOA|nons Org. NS", nil},
		{"", []string{"@ SOA", "@ NS"}},
		{"nons Org. NS", []string{"@ SOA"}},
		{"nosoa Org. SOA", []string{"@ NS a"}},
		{"manysoa Org. SOA", []string{"@ SOA a", "org. SOA b", "@ NS"}},
		{"", []string{"@ SOA a", "org. SOA A", "@ NS"}},
		{"strange . A|strange x. NS|nosoa Org. SOA|nons Org. NS", []string{"x. NS", ". A", ". A b"}},
		{"strange a.Org. SOA|hidden c.Org. MX|strange c.Org. SOA|hidden c.Org. SOA", []string{"@ SOA", "@ NS", "a SOA", "a SOA b", "c NS", "c SOA", "c MX"}},
		{"strange x. SOA", []string{"@ SOA", "@ NS", "x. SOA"}},
		{"mixed a.Org. CNAME", []string{"@ SOA", "@ NS", "a CNAME x", "A TXT", "a A"}},
		{"", []string{"@ SOA", "@ NS", "a CNAME x", "b TXT", "a.b A"}},
		{"mixed a.Org. CNAME|manyname a.Org. CNAME", []string{"@ SOA", "@ NS", "a CNAME x", "a CNAME y", "a A"}},
		{"manyname a.Org. DNAME", []string{"@ SOA", "@ NS", "a DNAME x", "a DNAME y", "a A", "a MX", "a MX x"}},
		{"", []string{"@ SOA", "@ NS", "c NS x", "c NS y", "c A", "c AAAA", "x.c A", "x.y.c AAAA"}},
		{"hidden c.Org. TXT|hidden x.c.Org. NS|hidden x.c.Org. MX", []string{"@ SOA", "@ NS", "c NS", "c TXT", "x.c NS", "x.c MX", "x.c A"}},
		{"hidden c.Org. DNAME", []string{"@ SOA", "@ NS", "c NS", "c DNAME x", "x.c A"}},
		{"covered x.Org. A|covered y.x.Org. MX", []string{"@ SOA", "@ NS", "@ DNAME x", "x A", "y.x MX"}},
		{"covered a.d.Org. A|covered b.a.d.Org. DNAME", []string{"@ SOA", "@ NS", "d DNAME x", "d A", "a.d A", "b.a.d DNAME x", "xd A"}},
		{"covered x.Org. A", []string{"@ SOA", "@ NS", "@ DNAME a", "c NS", "c A", "x.c A", "x A"}},
		{"strange . DNAME", []string{"@ SOA", "@ NS", ". DNAME x", "a A"}},
		{"wildns *.Org. NS", []string{"@ SOA", "@ NS", "* NS", "*.a TXT"}},
		{"hidden a.*.Org. TXT|wildns *.Org. NS|hidden *.*.Org. NS|wildns *.*.Org. NS", []string{"@ SOA", "@ NS", "* NS", "a.* TXT", "*.* NS"}},
	} {
		l := Zone(zone.New(org, rows(c.l...)))
		want := strings.Split(c.want, "|")
		got := strings.Split(show(l), "|")
		if !sameSet(got, want) {
			t.Errorf("%q: %s; want %s", c.l, show(l), c.want)
		}
		for i := 1; i < len(l); i++ {
			if Compare(l[i-1], l[i]) >= 0 {
				t.Errorf("%q: order: %s", c.l, show(l))
			}
		}
	}
}

func sameSet(a, b []string) bool {
	if len(a) != len(b) {
		return false
	}
	for _, x := range a {
		if strings.Count("|"+strings.Join(b, "|")+"|", "|"+x+"|") != 1 {
			return false
		}
	}
	return true
}

func TestP1301AnyRows(t *testing.T) {
	z := zone.Zone{Origin: org, Recs: rows("b A", "a CNAME x", "b CNAME y", "a CNAME x")}
	if s := show(Zone(z)); s != "nosoa Org. SOA|nons Org. NS|mixed b.Org. CNAME" {
		t.Error(s)
	}
	odd := zone.Zone{Recs: []rec.Rec{{Owner: name.Name{""}, Data: rdata.Data{Type: -1}}, {Data: rdata.Data{Type: api.NS}}}}
	if s := show(Zone(odd)); s != "nosoa . SOA" {
		t.Error(s)
	}
	odd.Recs[1].Owner = name.Name{""}
	if s := show(Zone(odd)); s != "nosoa . SOA|nons . NS|hidden . TYPE-1" {
		t.Error(s)
	}
}

func TestP1301WordAndCompare(t *testing.T) {
	words := strings.Fields("nosoa manysoa nons strange mixed manyname hidden covered wildns")
	for k := -1; k < 12; k++ {
		want := ""
		if k >= NoSOA && k <= WildNS {
			want = words[k-1]
		}
		if Word(k) != want {
			t.Error(k, Word(k))
		}
	}
	rising := []Flaw{{9, nil, 9}, {1, name.Name{"A"}, 2}, {1, name.Name{"a"}, 3}, {2, name.Name{"a"}, 1}, {1, name.Name{"b"}, 1}}
	for i, a := range rising {
		for k, b := range rising {
			want := 0
			if i < k {
				want = -1
			} else if i > k {
				want = 1
			}
			if Compare(a, b) != want {
				t.Error(a, b)
			}
		}
	}
}
