package print

import (
	"math/rand"
	"slices"
	"testing"

	"toponym/api"
	"toponym/load"
	"toponym/name"
	"toponym/rdata"
	"toponym/rec"
)

func row(t *testing.T, text string) []rec.Rec {
	t.Helper()
	l, f := load.Load([]load.File{{Path: "f", Text: text}}, "f", name.Name{"Org"})
	if f != nil {
		t.Fatal(f)
	}
	return l
}

func TestP1001Lines(t *testing.T) {
	l := row(t, "b 1 A 1.2.3.4\na 2 NS b\nb 1 A 1.2.3.4\n")
	if s := Lines(l); s != "b.Org. 1 IN A 1.2.3.4\na.Org. 2 IN NS b.Org.\nb.Org. 1 IN A 1.2.3.4\n" {
		t.Error(s)
	}
	if Lines(nil) != "" {
		t.Error("of none")
	}
}

func TestP1001Short(t *testing.T) {
	o := name.Name{"Org"}
	for _, c := range []struct {
		n, origin name.Name
		want      string
	}{
		{o, o, "@"}, {name.Name{"oRG"}, o, "@"}, {nil, nil, "@"}, {name.Name{"a", "B", "ORG"}, o, "a.B"}, {name.Name{"a.b", "@", "org"}, o, `a\.b.\@`},
		{nil, o, "."}, {name.Name{"a"}, o, "a."}, {name.Name{"a", "Org", "x"}, o, "a.Org.x."}, {name.Name{"a"}, nil, "a"}, {name.Name{"a", "b"}, nil, "a.b"},
	} {
		if s := Short(c.n, c.origin); s != c.want {
			t.Errorf("%q, %q: %s", c.n, c.origin, s)
		}
	}
}

func TestP1001File(t *testing.T) {
	o := name.Name{"Org"}
	for text, want := range map[string]string{
		"": "$ORIGIN Org.\n$TTL 0\n",
		"b 3 A 1.2.3.4\nb 3 A 1.2.3.5\n@ 5 NS b\nB 3 TXT x\nz. 5 NS b\n": "$ORIGIN Org.\n$TTL 3\n@ 5 IN NS b.Org.\nb IN A 1.2.3.4\n IN A 1.2.3.5\nB IN TXT \"x\"\nz. 5 IN NS b.Org.\n",
		"b 7 A 1.2.3.4\nb 3 NS a\nb 7 MX 1 a\nb 3 TXT x":                 "$ORIGIN Org.\n$TTL 3\nb 7 IN A 1.2.3.4\n IN NS a.Org.\n 7 IN MX 1 a.Org.\n IN TXT \"x\"\n",
		"b 9 A 1.2.3.4\nb 3 A 1.2.3.4\nc 9 A 1.2.3.4\nd 9 A 1.2.3.4":     "$ORIGIN Org.\n$TTL 9\nb 3 IN A 1.2.3.4\nc IN A 1.2.3.4\nd IN A 1.2.3.4\n",
		"a 86400 A 1.2.3.4\nb 2147483647 A 1.2.3.4\nc 86400 A 1.2.3.4":   "$ORIGIN Org.\n$TTL 86400\na IN A 1.2.3.4\nb 2147483647 IN A 1.2.3.4\nc IN A 1.2.3.4\n",
		"a.ORG. 1 A 1.2.3.4\na.Org. 1 A 1.2.3.5":                         "$ORIGIN Org.\n$TTL 1\na IN A 1.2.3.4\na IN A 1.2.3.5\n",
	} {
		if s := File(row(t, text), o); s != want {
			t.Errorf("%q:\n%s", text, s)
		}
	}
	if s := File(nil, nil); s != "$ORIGIN .\n$TTL 0\n" {
		t.Error(s)
	}
}

func TestP1002(t *testing.T) {
	r := rand.New(rand.NewSource(10))
	labels := []string{"a", "A", "b", "*", "@", "$x", "x.y", " ", "(", "\"", ";", "\\", "\x00\xff", "IN", "1"}
	someName := func() name.Name {
		var n name.Name
		for range r.Intn(4) {
			n = append(n, labels[r.Intn(len(labels))])
		}
		return n
	}
	for range 3000 {
		origin := someName()
		var l []rec.Rec
		for range r.Intn(8) {
			owner := someName()
			if r.Intn(2) == 0 {
				owner = append(owner, origin...)
			}
			d := rdata.Data{Type: api.NS, Names: []name.Name{someName()}}
			switch r.Intn(3) {
			case 0:
				d = rdata.Data{Type: api.TXT, Texts: []string{labels[r.Intn(len(labels))]}}
			case 1:
				d = rdata.Data{Type: 7, Raw: []byte(labels[r.Intn(len(labels))])}
			}
			l = append(l, rec.Rec{Owner: owner, TTL: uint32(r.Intn(3)), Data: d})
		}
		text := File(l, origin)
		got, f := load.Load([]load.File{{Path: "f", Text: text}}, "f", someName())
		if f != nil || !rec.SameRow(got, rec.Canon(l)) {
			t.Fatalf("%s\n%v", text, f)
		}
	}
}

func TestP2FileLeavesItsRecords(t *testing.T) {
	l := row(t, "b 1 A 1.2.3.4\na 2 NS b")
	File(l, nil)
	if !slices.Equal(l[0].Owner, name.Name{"b", "Org"}) {
		t.Error("sorted in place")
	}
}
