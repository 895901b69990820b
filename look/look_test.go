package look

import (
	"slices"
	"strings"
	"testing"

	"toponym/api"
	"toponym/load"
	"toponym/name"
	"toponym/rdata"
	"toponym/rec"
	"toponym/rtype"
	"toponym/zone"
)

const sample = `$TTL 1
@ SOA a b 1 1 1 1 1
@ NS ns
@ NS ns.cut
ns A 10.0.0.1
cut NS b.cut
cut NS a.cut
cut NS ns
cut NS elsewhere.
a.cut AAAA 1:0:0:0:0:0:0:1
a.cut A 10.0.0.9
cut DNAME x.
low.cut NS q.
d DNAME to.
d DNAME tp.
d A 10.0.0.2
below.d A 10.0.0.3
c CNAME Target.x.
c2 CNAME a.
c2 CNAME b.
mixed CNAME t.
mixed A 10.0.0.4
e.n.t A 10.0.0.5
*.w A 10.0.0.6
*.w MX 1 m
*.wc CNAME t.
x.w TXT x
`

func load1(t *testing.T, text string, origin name.Name) zone.Zone {
	t.Helper()
	l, f := load.Load([]load.File{{Path: "f", Text: text}}, "f", origin)
	if f != nil {
		t.Fatal(f)
	}
	return zone.New(origin, l)
}

func show(r Result) string {
	s := []string{"", "answer", "nodata", "noname", "refer", "alias", "long", "refuse"}[r.Kind]
	if r.Wild {
		s += "*"
	}
	if len(r.Name) > 0 {
		s += " " + name.Text(r.Name)
	}
	for _, d := range r.Data {
		s += " " + rtype.Text(d.Type) + ":" + rdata.Text(d)
	}
	for _, g := range r.Glue {
		s += " [" + name.Text(g.Host)
		for _, d := range g.Data {
			s += " " + rdata.Text(d)
		}
		s += "]"
	}
	return s
}

func TestP1401Zone(t *testing.T) {
	z := load1(t, sample, name.Name{"Org"})
	cut := " Cut.Org. NS:elsewhere. NS:a.cut.Org. NS:b.cut.Org. NS:ns.Org. [a.cut.Org. 10.0.0.9 1:0:0:0:0:0:0:1] [ns.Org. 10.0.0.1]"
	for q, want := range map[string]string{
		"x. A":        "refuse",
		". NS":        "refuse",
		"@ NS":        "answer NS:ns.cut.Org. NS:ns.Org.",
		"@ A":         "nodata",
		"@ CNAME":     "nodata",
		"ns A":        "answer A:10.0.0.1",
		"NS TXT":      "nodata",
		"Cut A":       "refer" + cut,
		"Cut NS":      "refer" + cut,
		"Cut DNAME":   "refer" + cut,
		"x.y.Cut TXT": "refer" + cut,
		"q.low.Cut A": "refer" + cut,
		"d A":         "answer A:10.0.0.2",
		"d DNAME":     "answer DNAME:to. DNAME:tp.",
		"d TXT":       "nodata",
		"below.D A":   "alias below.to. DNAME:to.",
		"X.y.d A":     "alias X.y.to. DNAME:to.",
		"c A":         "alias Target.x. CNAME:Target.x.",
		"c CNAME":     "answer CNAME:Target.x.",
		"c2 A":        "alias a. CNAME:a.",
		"c2 CNAME":    "answer CNAME:a. CNAME:b.",
		"mixed A":     "answer A:10.0.0.4",
		"mixed TXT":   "alias t. CNAME:t.",
		"t A":         "nodata",
		"n.t A":       "nodata",
		"m.t A":       "noname",
		"nope A":      "noname",
		"q.w A":       "answer* A:10.0.0.6",
		"r.q.w MX":    "answer* MX:1 m.Org.",
		"q.w TXT":     "nodata*",
		"*.w A":       "answer A:10.0.0.6",
		"x.w A":       "nodata",
		"q.x.w A":     "noname",
		"w A":         "nodata",
		"q.wc A":      "alias* t. CNAME:t.",
		"q.wc CNAME":  "answer* CNAME:t.",
		"elsewhere A": "noname",
	} {
		w := strings.Fields(q)
		n, _ := name.Parse(w[0], name.Name{"ORG"})
		k, _ := rtype.Parse(w[1])
		got := show(Zone(z, n, k))
		if !strings.EqualFold(got, want) || strings.HasPrefix(want, "alias") && got != want {
			t.Errorf("%s: %s; want %s", q, got, want)
		}
	}
	if s := show(Zone(z, name.Name{"q", "cUT", "org"}, 1)); !strings.HasPrefix(s, "refer cUT.org. ") {
		t.Error(s)
	}
}

func TestP1401Long(t *testing.T) {
	x := strings.Repeat("x", 63)
	z := load1(t, "$TTL 1\nd DNAME "+x+"."+x+"."+x+".\n", nil)
	q := name.Name{strings.Repeat("y", 61), "d"}
	if r := Zone(z, q, 1); r.Kind != Alias || name.Len(r.Name) != 255 {
		t.Error(show(r))
	}
	q[0] += "y"
	if r := Zone(z, q, 1); !Same(r, Result{Kind: Long}) {
		t.Error(show(r))
	}
	if r := Zone(z, q[1:], api.DNAME); r.Kind != Answer {
		t.Error(show(r))
	}
}

func TestP1401OriginAndRoot(t *testing.T) {
	z := load1(t, "$TTL 1\n@ NS a.\n@ DNAME t.\n@ A 1.2.3.4\n", name.Name{"o"})
	if s := show(Zone(z, name.Name{"o"}, 1)); s != "answer A:1.2.3.4" {
		t.Error(s)
	}
	if s := show(Zone(z, name.Name{"q", "o"}, 1)); s != "alias q.t. DNAME:t." {
		t.Error(s)
	}
	root := load1(t, "$TTL 1\n. DNAME t.\nq A 1.2.3.4\n", nil)
	if s := show(Zone(root, name.Name{"q"}, 1)); s != "alias q.t. DNAME:t." {
		t.Error(s)
	}
	if s := show(Zone(zone.Zone{}, nil, 1)); s != "nodata" {
		t.Error(s)
	}
}

func TestP1401Same(t *testing.T) {
	d := []rdata.Data{{Type: 2, Names: []name.Name{{"A"}}}}
	e := []rdata.Data{{Type: 2, Names: []name.Name{{"a"}}}}
	a := Result{Kind: Refer, Data: d, Name: name.Name{"N"}, Glue: []Glue{{name.Name{"H"}, d}}}
	b := Result{Kind: Refer, Data: e, Name: name.Name{"n"}, Glue: []Glue{{name.Name{"h"}, e}}}
	if !Same(a, b) || !Same(Result{}, Result{Data: []rdata.Data{}}) {
		t.Error("alike")
	}
	for i, c := range []Result{{}, {Kind: Answer, Data: d, Name: a.Name, Glue: a.Glue}, {Kind: Refer, Name: a.Name, Glue: a.Glue}, {Kind: Refer, Data: d, Glue: a.Glue}, {Kind: Refer, Data: d, Name: a.Name}, {Kind: Refer, Data: d, Name: a.Name, Glue: a.Glue, Wild: true}, {Kind: Refer, Data: d, Name: a.Name, Glue: []Glue{{name.Name{"i"}, d}}}, {Kind: Refer, Data: d, Name: a.Name, Glue: []Glue{{name.Name{"h"}, nil}}}} {
		if Same(a, c) {
			t.Error(i)
		}
	}
}

func TestP1AndP2(t *testing.T) {
	z := zone.Zone{Recs: []rec.Rec{{Owner: name.Name{"a"}, Data: rdata.Data{Type: api.DNAME}}, {Owner: name.Name{"c"}, Data: rdata.Data{Type: api.CNAME}}, {Owner: name.Name{"n"}, Data: rdata.Data{Type: api.NS}}}}
	for _, q := range []name.Name{nil, {"a"}, {"x", "a"}, {"c"}, {"n"}, {"", "", ""}} {
		Zone(z, q, -1)
	}
	two := zone.Zone{Recs: []rec.Rec{{Owner: name.Name{"n"}, Data: rdata.Data{Type: api.NS, Names: []name.Name{{"h"}}}}, {Owner: name.Name{"n"}, Data: rdata.Data{Type: api.NS, Names: []name.Name{{"h"}, {"i"}}}}, {Owner: name.Name{"h"}, Data: rdata.Data{Type: api.A, Raw: []byte{1, 2, 3, 4}}}}}
	if r := Zone(two, name.Name{"n"}, 1); len(r.Data) != 2 || len(r.Glue) != 1 {
		t.Error("a host's glue is told once")
	}
	z = load1(t, sample, name.Name{"Org"})
	before := slices.Clone(z.Recs)
	for _, q := range []name.Name{{"c", "org"}, {"cut", "org"}, {"q", "d", "org"}, {"ns", "org"}} {
		r := Zone(z, q, 1)
		for i := range r.Name {
			r.Name[i] = "changed"
		}
		for _, d := range r.Data {
			if len(d.Names) > 0 && d.Names[0][0] == "changed" {
				t.Error("Name and Data share")
			}
			clear(d.Raw)
			for _, n := range d.Names {
				clear(n)
			}
		}
		for _, g := range r.Glue {
			clear(g.Host)
			clear(g.Data[0].Raw)
		}
	}
	fresh := load1(t, sample, name.Name{"Org"})
	if !rec.SameRow(before, fresh.Recs) {
		t.Error("what was handed in is changed")
	}
}
