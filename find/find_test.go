package find

import (
	"slices"
	"strconv"
	"strings"
	"testing"

	"toponym/api"
	"toponym/check"
	"toponym/class"
	"toponym/conf"
	"toponym/edge"
	"toponym/load"
	"toponym/name"
	"toponym/net"
	"toponym/rtype"
	"toponym/run"
	"toponym/step"
)

func network(t *testing.T, config string, texts ...string) net.Net {
	t.Helper()
	c, line, e := conf.Parse(config)
	if e != api.OK {
		t.Fatal(line, e)
	}
	var files []load.File
	for i := 0; i < len(texts); i += 2 {
		files = append(files, load.File{Path: texts[i], Text: "$TTL 1\n" + texts[i+1]})
	}
	n, faults := net.Load(files, c)
	if len(faults) > 0 {
		t.Fatal(faults[0])
	}
	return n
}

func show(l []Seen) string {
	var out []string
	for _, s := range l {
		x := step.Word(s.Kind) + " " + name.Text(s.Name) + " " + rtype.Text(s.Type)
		for _, p := range s.Picks {
			x += " " + strconv.Itoa(p)
		}
		out = append(out, x)
	}
	return strings.Join(out, "|")
}

const good = "@ SOA ns. x. 1 1 1 1 1\n@ NS ns.\n"

func TestP2301Runs(t *testing.T) {
	config := "bound 1 1\nserver ns. 10.0.0.1\nzone . 0\nserver b. 10.0.0.2\nzone org. 1\nroot ns.\n"
	for _, c := range []struct{ root, org, want string }{
		{good, good, ""},
		{good + "org NS b.\n", good, ""},
		{good + "org NS none.\n", good, "gone org. A 0 0"},
		{good + "net NS b.\nnet NS ns.\n", good, "lame net. A 0 0 0|far net. A 0 1 0"},
		{good + "l CNAME l\n", good, "loop l. A 0 0 0"},
		{good + "a.l DNAME a.l\n", good, "loop 0.a.l. A 0 0 0"},
		{good + "o CNAME org\norg NS b\n", good + "x CNAME x.b\nb NS b.\n", "*"},
	} {
		n := network(t, config, "0", c.root, "1", c.org)
		l, e := Runs(n)
		if c.want != "*" && show(l) != c.want || e != api.OK {
			t.Errorf("%q, %q: %s, %v; want %s", c.root, c.org, show(l), e, c.want)
		}
		checkRuns(t, n, l, e)
	}
	n := network(t, "bound 1 1\nserver ns. 10.0.0.1\nzone org. 1\nroot ns.\n", "1", good)
	if l, e := Runs(n); show(l) != "refused . A 0 0" || e != api.OK {
		t.Error(show(l), e)
	}
}

// checkRuns holds what is seen against all queries, asked one by one.
func checkRuns(t *testing.T, n net.Net, l []Seen, e api.Errno) {
	t.Helper()
	all, _ := class.All(n)
	var want []Seen
	for _, kind := range []int{step.Refused, step.Lame, step.Loop, step.Far, step.Gone} {
	search:
		for _, c := range all {
			rep, ok := class.Rep(all, c)
			for _, k := range rtype.All() {
				ends, _, _ := run.Explore(n, rep, k)
				for _, end := range ends {
					if ok && end.Kind == kind {
						want = append(want, Seen{kind, rep, k, end.Picks})
						break search
					}
				}
			}
		}
	}
	if e != api.OK || !slices.EqualFunc(l, want, Same) {
		t.Errorf("%s, %v; want %s", show(l), e, show(want))
	}
}

func TestP2301RunsErrors(t *testing.T) {
	config := "bound 1 1\nserver ns. 10.0.0.1\nzone . 0\nroot ns.\n"
	n := network(t, config, "0", "org NS ns.\n")
	n.Referrals = 1 << 40
	if l, e := Runs(n); len(l) != 0 || e != api.ErrMany {
		t.Error(l, e)
	}
	n = network(t, config, "0", good+"l CNAME l\n")
	for i := range api.MaxClasses {
		n.Hosts = append(n.Hosts, net.Host{Name: name.Name{strconv.Itoa(i)}})
	}
	if l, e := Runs(n); len(l) != 0 || e != api.ErrMany {
		t.Error(l, e)
	}
}

func TestP2301FlawsAndEdges(t *testing.T) {
	config := "bound 1 1\nserver ns. 10.0.0.1\nzone . 0\nzone org. 1\nserver b. 10.0.0.2\nzone Org. 1\nserver c. 10.0.0.3\nzone a. 0\nroot ns.\n"
	n := network(t, config, "0", "@ NS ns.\nq.org A 1.2.3.4\nx CNAME y\nx A 1.2.3.4\norg NS d.org\n", "1", good+"x A 1.2.3.4\nx CNAME y\n")
	var out []string
	for _, f := range Flaws(n) {
		out = append(out, check.Word(f.Kind)+" "+name.Text(f.Owner)+" "+rtype.Text(f.Type))
	}
	if s := strings.Join(out, "|"); s != "nosoa . SOA|nosoa a. SOA|mixed x.a. CNAME|mixed x.org. CNAME|mixed x. CNAME" {
		t.Error(s)
	}
	if l := Edges(n); !slices.EqualFunc(l, edge.Flaws(n), func(a, b edge.Flaw) bool { return edge.Compare(a, b) == 0 }) || len(l) < 3 {
		t.Error(l)
	}
	if len(Flaws(net.Net{})) != 0 || len(Edges(net.Net{})) != 0 {
		t.Error("of none")
	}
}

func TestP2301Same(t *testing.T) {
	a := Seen{5, name.Name{"A"}, 1, []int{1, 2}}
	if !Same(a, Seen{5, name.Name{"a"}, 1, []int{1, 2}}) || !Same(Seen{}, Seen{Picks: []int{}}) {
		t.Error("alike")
	}
	for i, b := range []Seen{{6, a.Name, 1, a.Picks}, {5, name.Name{"b"}, 1, a.Picks}, {5, a.Name, 2, a.Picks}, {5, a.Name, 1, []int{1}}, {5, a.Name, 1, []int{2, 1}}} {
		if Same(a, b) {
			t.Error(i)
		}
	}
}
