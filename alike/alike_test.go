package alike

import (
	"math/rand"
	"slices"
	"strconv"
	"strings"
	"testing"

	"toponym/api"
	"toponym/class"
	"toponym/conf"
	"toponym/load"
	"toponym/name"
	"toponym/net"
	"toponym/rtype"
	"toponym/run"
	"toponym/step"
)

func network(t *testing.T, config string, texts ...string) net.Net {
	t.Helper()
	c, line, e := conf.Parse(config)
	if e != api.OK {
		t.Fatal(line, e)
	}
	var files []load.File
	for i := 0; i < len(texts); i += 2 {
		files = append(files, load.File{Path: texts[i], Text: "$TTL 1\n" + texts[i+1]})
	}
	n, faults := net.Load(files, c)
	if len(faults) > 0 {
		t.Fatal(faults[0])
	}
	return n
}

const two = "bound 2 2\nserver ns. 10.0.0.1\nzone . 0\nserver b. 10.0.0.2\nzone org. 1\nroot ns.\nroot b.\n"

func TestP2201Rep(t *testing.T) {
	n := network(t, two, "0", "0.x A 1.2.3.4\n", "1", "")
	for q, want := range map[string]string{"X.": "x.", "a.x.": "1.x.", "0.X.": "0.x.", "a.b.c.": "0.", ".": ".", "a.0.x.": "0.0.x."} {
		x, _ := name.Parse(q, nil)
		if r, ok := Rep(n, x); !ok || name.Text(r) != want {
			t.Errorf("%s: %q, %v", q, r, ok)
		}
	}
	for i := range api.MaxClasses {
		n.Hosts = append(n.Hosts, net.Host{Name: name.Name{strconv.Itoa(i)}})
	}
	if r, ok := Rep(n, nil); ok || len(r) != 0 {
		t.Error(r, ok)
	}
	x := strings.Repeat("x", 63)
	n = network(t, two, "0", x+"."+x+"."+x+"."+x[2:]+" A 1.2.3.4\n", "1", "")
	if r, ok := Rep(n, name.Name{"", x, x, x, x[2:]}); ok || len(r) != 0 {
		t.Error(r, ok)
	}
}

func TestP2201Alike(t *testing.T) {
	n := network(t, two, "0", "a A 1.2.3.4\nb A 1.2.3.4\norg NS b.\nc CNAME a.\n", "1", "x A 1.2.3.4\ny TXT x\n")
	for _, c := range []struct {
		a, b string
		t    int
		want bool
	}{{"a", "B", api.A, true}, {"a", "B", api.TXT, true}, {"a", "n", api.A, false}, {"a", "c", api.A, false}, {"n", "m", api.A, true}, {"x.org", "y.org", api.A, false}, {"x.org", "a", api.A, false}} {
		if Alike(n, strings.Split(c.a, "."), strings.Split(c.b, "."), c.t) != c.want {
			t.Error(c)
		}
	}
	n = network(t, two, "0", "org NS b.\nl CNAME l\n", "1", "x NS b.\n")
	n.Rewrites, n.Referrals = 1<<40, 1<<40
	if !Alike(n, name.Name{"l"}, name.Name{"x", "org"}, 1) || Alike(n, name.Name{"l"}, nil, 1) || Alike(n, nil, name.Name{"l"}, 1) {
		t.Error("errors")
	}
}

func TestP2201AllEndsCount(t *testing.T) {
	a := run.End{Kind: 1, Picks: []int{0, 1, 2}}
	for i, b := range []run.End{{Kind: 2, Picks: a.Picks}, {Kind: 1, Picks: []int{0, 1}}, {Kind: 1, Picks: []int{0, 1, 3}}, {Kind: 1, Picks: []int{0, 2, 2}}} {
		if sameEnd(a, b) || sameLists([]run.End{a, a}, []run.End{a, b}, sameEnd) {
			t.Error(i)
		}
	}
	if !sameEnd(a, a) || sameLists([]run.End{a}, []run.End{a, a}, sameEnd) {
		t.Error("alike")
	}
	n := network(t, two, "0", "a CNAME x.org.\nb CNAME none.\norg NS b.\nc CNAME y.org.\n", "1", "x A 1.2.3.4\n")
	if Alike(n, name.Name{"a"}, name.Name{"b"}, api.A) || Alike(n, name.Name{"a"}, name.Name{"c"}, api.A) || !Alike(n, name.Name{"b"}, name.Name{"b"}, api.A) {
		t.Error("refused alike, but not the rest")
	}
}

// randomNet has few labels, so that its records meet.
func randomNet(t *testing.T, r *rand.Rand) net.Net {
	hosts := []string{"ns.", "b.", "c.org.", "none.", "d.a.org."}
	names := []string{"org.", "a.org.", "b.org.", "*.org.", ".", "0.a.org.", "*.a.org.", "x.", "*.", "b.a.org.", "0.", "q.x."}
	var texts []string
	for i := range 4 {
		var text string
		for range r.Intn(8) {
			owner, target := names[r.Intn(len(names))], names[r.Intn(len(names))]
			switch r.Intn(6) {
			case 0:
				text += owner + " NS " + hosts[r.Intn(len(hosts))] + "\n"
			case 1:
				text += owner + " CNAME " + target + "\n"
			case 2, 3:
				text += owner + " DNAME " + target + "\n"
			case 4:
				text += owner + " A 10.0.0." + strconv.Itoa(1+r.Intn(3)) + "\n"
			case 5:
				text += hosts[r.Intn(len(hosts))] + " A 10.0.0." + strconv.Itoa(1+r.Intn(3)) + "\n"
			}
		}
		texts = append(texts, strconv.Itoa(i), text)
	}
	return network(t, "bound "+strconv.Itoa(r.Intn(4))+" "+strconv.Itoa(r.Intn(4))+"\nserver ns. 10.0.0.1\nzone . 0\nserver b. 10.0.0.2\nzone org. 1\nzone x. 3\nserver c.org. 10.0.0.3\nzone a.org. 2\nroot ns.\nroot b.\n", texts...)
}

func TestP2202(t *testing.T) {
	r := rand.New(rand.NewSource(22))
	for range 1500 {
		n := randomNet(t, r)
		l, e := class.All(n)
		if e != api.OK {
			continue
		}
		for range 20 {
			var q name.Name
			for range r.Intn(4) {
				q = append(q, []string{"a", "B", "0", "1", "org", "*", "x", "zz"}[r.Intn(8)])
			}
			if r.Intn(2) == 0 {
				q = append(q, "org")
			}
			c, _ := class.Of(l, q)
			rep, ok := class.Rep(l, c)
			if !ok {
				continue
			}
			k := rtype.All()[r.Intn(9)]
			x, _, e := run.Explore(n, q, k)
			y, _, f := run.Explore(n, rep, k)
			if e != api.OK || f != api.OK || slices.Contains(run.Kinds(x), step.TooLong) || slices.Contains(run.Kinds(y), step.TooLong) {
				continue
			}
			if !Alike(n, q, rep, k) {
				t.Fatalf("%q, %q, %d: %v; %v\n%v", q, rep, k, x, y, n)
			}
		}
	}
}
