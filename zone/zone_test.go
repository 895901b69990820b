package zone

import (
	"math/rand"
	"slices"
	"testing"

	"toponym/api"
	"toponym/name"
	"toponym/rdata"
	"toponym/rec"
)

func n(s string) name.Name {
	x, e := name.Parse(s, name.Name{"Org"})
	if e != api.OK {
		panic(s)
	}
	return x
}

func host(owner string, t, size int) rec.Rec {
	raw := make([]byte, size)
	raw[0] = byte(len(owner))
	return rec.Rec{Owner: n(owner), Data: rdata.Data{Type: t, Raw: raw}}
}

func ns(owner string) rec.Rec {
	return rec.Rec{Owner: n(owner), Data: rdata.Data{Type: api.NS, Names: []name.Name{{"x"}}}}
}

func sample() Zone {
	return New(n("@"), []rec.Rec{ns("@"), ns("Cut"), ns("low.er.cut"), host("ns.cut", api.A, 4), host("a.b.c", api.A, 4), host("*.wild", api.A, 4), host("x.wild", api.AAAA, 16), host("x.wild", api.A, 4), host("out.", api.A, 4), ns("net."), host("*.", api.A, 4)})
}

func TestP1201New(t *testing.T) {
	l := []rec.Rec{host("b", api.A, 4), host("a", api.A, 4), host("B", api.A, 4)}
	o := n("@")
	z := New(o, l)
	if !slices.Equal(z.Origin, o) || !rec.SameRow(z.Recs, rec.Canon(l)) || len(z.Recs) != 2 {
		t.Error(z)
	}
	o[0] = "x"
	if z.Origin[0] != "Org" {
		t.Error("origin is kept")
	}
}

func TestP1201Where(t *testing.T) {
	z := sample()
	for s, want := range map[string]int{"@": Inside, "org.": Inside, "a": Inside, "a.b.c": Inside, "cUT": Cut, "x.cut": Below, "low.er.cut": Below, "er.cut": Below, "y.low.er.cut": Below, "out.": Outside, ".": Outside, "net.": Outside, "xcut": Inside} {
		if w := Where(z, n(s)); w != want {
			t.Errorf("%s: %d", s, w)
		}
	}
	root := New(nil, []rec.Rec{ns("."), ns("Com.")})
	for s, want := range map[string]int{".": Inside, "com.": Cut, "a.com.": Below, "b.": Inside} {
		if w := Where(root, n(s)); w != want {
			t.Errorf("%s: %d", s, w)
		}
	}
}

func TestP1201CutOf(t *testing.T) {
	z := sample()
	if c, ok := CutOf(z, n("q.LOW.er.cUt")); !ok || !slices.Equal(c, name.Name{"cUt", "Org"}) {
		t.Error(c, ok)
	}
	if c, ok := CutOf(z, n("CUT")); !ok || !slices.Equal(c, name.Name{"CUT", "Org"}) {
		t.Error(c, ok)
	}
	for _, s := range []string{"@", "a", "x.net.", "."} {
		if c, ok := CutOf(z, n(s)); ok || len(c) != 0 {
			t.Error(s, c, ok)
		}
	}
}

func TestP1201Exists(t *testing.T) {
	z := sample()
	for s, want := range map[string]bool{"@": true, "a.B.c": true, "b.c": true, "c": true, "x.c": false, "y.a.b.c": false, "er.cut": true, "out.": false, ".": false, "*.wild": true, "y.wild": false} {
		if Exists(z, n(s)) != want {
			t.Error(s)
		}
	}
	if !Exists(New(n("@"), nil), n("@")) || Exists(New(n("@"), nil), n("a")) {
		t.Error("the origin always does")
	}
}

func TestP1201EncloserAndSource(t *testing.T) {
	z := sample()
	for s, want := range map[string]name.Name{"q.x.B.c": {"B", "c", "Org"}, "q": {"Org"}, "@": {"Org"}, "oRg.": {"oRg"}, "a.b.c": {"a", "b", "c", "Org"}, "q.out.": nil, ".": nil} {
		if e := Encloser(z, n(s)); !slices.Equal(e, want) {
			t.Errorf("%s: %q", s, e)
		}
	}
	for s, want := range map[string]name.Name{"q.WILD": {"*", "WILD", "Org"}, "r.q.wild": {"*", "wild", "Org"}, "wild": {"*", "wild", "Org"}, "x.out.": {"*"}} {
		if x, ok := Source(z, n(s)); !ok || !slices.Equal(x, want) {
			t.Errorf("%s: %q", s, x)
		}
	}
	for _, s := range []string{"@", "q", "q.x.wild", "x.wild", "q.c", "*.wild"} {
		if x, ok := Source(z, n(s)); ok || len(x) != 0 {
			t.Errorf("%s: %q", s, x)
		}
	}
}

func TestP1201Glue(t *testing.T) {
	z := sample()
	g := Glue(z, n("X.wild"))
	if len(g) != 2 || g[0].Type != api.A || g[1].Type != api.AAAA {
		t.Error(g)
	}
	if len(Glue(z, n("out."))) != 1 || len(Glue(z, n("cut"))) != 0 {
		t.Error("Glue")
	}
	g[0].Raw[0] = 99
	if Glue(z, n("x.wild"))[0].Raw[0] == 99 {
		t.Error("shared")
	}
}

// TestP1201AsSaid holds the answers against the chapter's words, taken one by one.
func TestP1201AsSaid(t *testing.T) {
	r := rand.New(rand.NewSource(12))
	some := func() name.Name {
		var x name.Name
		for range r.Intn(5) {
			x = append(x, string("aAb*"[r.Intn(4)]))
		}
		return x
	}
	for range 2000 {
		var l []rec.Rec
		for range r.Intn(6) {
			l = append(l, rec.Rec{Owner: some(), Data: rdata.Data{Type: 1 + r.Intn(2)}})
		}
		z := Zone{Origin: some()[:0], Recs: l}
		if o := some(); len(o) > 0 {
			z.Origin = o[:1]
		}
		q := some()
		exists := func(x name.Name) bool {
			return name.Under(x, z.Origin) && (name.Same(x, z.Origin) || slices.ContainsFunc(l, func(o rec.Rec) bool { return name.Under(o.Owner, x) }))
		}
		if Exists(z, q) != exists(q) {
			t.Fatalf("%v %q: Exists", z, q)
		}
		enc := q
		for len(enc) > 0 && !exists(enc) {
			enc = enc[1:]
		}
		if !slices.Equal(Encloser(z, q), enc) {
			t.Fatalf("%v %q: Encloser %q", z, q, Encloser(z, q))
		}
		cut := -1
		for _, o := range l {
			if o.Data.Type == api.NS && name.Under(o.Owner, z.Origin) && !name.Same(o.Owner, z.Origin) && name.Under(q, o.Owner) && (cut < 0 || len(o.Owner) < cut) {
				cut = len(o.Owner)
			}
		}
		c, ok := CutOf(z, q)
		if ok != (cut >= 0) || ok && !slices.Equal(c, q[len(q)-cut:]) {
			t.Fatalf("%v %q: CutOf %q", z, q, c)
		}
	}
}
