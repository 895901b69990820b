package judge

import (
	"math/rand"
	"slices"
	"strconv"
	"strings"
	"testing"

	"toponym/again"
	"toponym/api"
	"toponym/check"
	"toponym/conf"
	"toponym/edge"
	"toponym/find"
	"toponym/load"
	"toponym/net"
	"toponym/replay"
	"toponym/text"
)

const config = "bound 2 2\nserver ns. 10.0.0.1\nzone . root\nserver ns.org. 10.0.0.2\nzone org. org\nroot ns.\n"

func files(root, org string) []load.File {
	head := "$TTL 60\n@ SOA ns. x. 1 1 1 1 1\n"
	return []load.File{{Path: "root", Text: head + root}, {Path: "org", Text: head + org}}
}

func TestP2801Net(t *testing.T) {
	f := files("@ NS ns.\n", "@ NS ns\n")
	n, r := Net(f, config)
	c, _, _ := conf.Parse(config)
	want, _ := net.Load(f, c)
	if text.Text(r) != "" || !again.Same(n, want) || len(n.Hosts) != 2 {
		t.Error(text.Text(r))
	}
	for config, want := range map[string]string{
		"":                                  "error config:1: form\n",
		"bound 1 1\nserver a. 1.1.1.1\nx\n": "error config:3: form\n",
		"bound 1 1\nserver a. 1.1.1.1\nroot b.\n": "error config:3: name\n",
		"bound 1 1\nserver a. 1.1.1.1\n":          "error config:3: empty\n",
		"bound 9 1\nserver a. 1.1.1.1\nroot a.\n": "error config:4: arg\n",
		"bound 1 1\nserver a. 1.1.1.1\nzone . none\nzone a. root\nzone b. none\nzone c. gone\nroot a.\n": "error none:0: name\nerror gone:0: name\n",
	} {
		n, r := Net(f, config)
		a := Analyze(f, config)
		if text.Text(r) != want || text.Text(a) != want || len(n.Hosts) != 0 || n.Rewrites != 0 {
			t.Errorf("%q: %s, %s", config, text.Text(r), text.Text(a))
		}
	}
}

func TestP2801Analyze(t *testing.T) {
	for _, c := range []struct{ root, org, want string }{
		{"@ NS ns.\norg NS ns.org.\nns.org A 10.0.0.2\n", "@ NS ns\nns A 10.0.0.2\n", ""},
		{
			"@ NS ns.\norg NS ns.org.\nnet NS gone.\nl CNAME l\n", "x CNAME y\nx A 10.0.0.1\n",
			"flaw nons org. NS\nflaw mixed x.org. CNAME\nedge nochild . net. - 0\nedge nsdiffers . org. - 1\nedge noglue . org. ns.org. 0\nseen loop l. A 0,0,0,0\nseen gone net. A 0,0\n",
		},
	} {
		r := Analyze(files(c.root, c.org), config)
		if s := text.Text(r); s != c.want {
			t.Errorf("%s; want %s", s, c.want)
		}
	}
	var many string
	for i := range 4094 {
		many += "h" + strconv.Itoa(i) + " A 1.2.3.4\n"
	}
	r := Analyze(files("@ NS ns.\nl CNAME l\nl A 1.2.3.4\n"+many[:len(many)-len("h4093 A 1.2.3.4\n")], "@ NS ns\n"), config)
	if s := text.Text(r); s != "error root:4098: many\n" {
		t.Error(s)
	}
	r = Analyze([]load.File{{Path: "root", Text: "$TTL 1\n@ NS ns.\n" + many}, {Path: "org", Text: "$TTL 1\n@ SOA a. b. 1 1 1 1 1\n@ NS ns\n"}}, config)
	if s := text.Text(r); s != "flaw nosoa . SOA\nstopped many\n" || len(r.Seen) != 0 {
		t.Error(s)
	}
}

// TestTheorems takes random texts: whatever is told of them is right, and the same when they are printed and loaded again.
func TestTheorems(t *testing.T) {
	r := rand.New(rand.NewSource(28))
	words := strings.Fields("@ a b * org org. a.org. ns. ns.org. ns none. A NS CNAME DNAME TXT MX SOA 1 IN 10.0.0.1 10.0.0.2 $TTL $ORIGIN $GENERATE 1-3 ${0,2} x$ ( ) \" ; \\")
	junk := func() string {
		var out string
		for range r.Intn(30) {
			out += words[r.Intn(len(words))] + []string{" ", " ", "\n"}[r.Intn(3)]
		}
		return out
	}
	owners, targets := strings.Fields("@ a b * org a.org org. b.a"), strings.Fields("ns. ns.org. none. a b.org. @ *")
	sound := func() string {
		var out string
		for range r.Intn(8) {
			owner, target := owners[r.Intn(len(owners))], targets[r.Intn(len(targets))]
			out += owner + []string{" NS " + target, " CNAME " + target, " DNAME " + target, " A 10.0.0." + strconv.Itoa(1+r.Intn(3))}[r.Intn(4)] + "\n"
		}
		return out
	}
	for i := range 600 {
		f := files(sound(), sound())
		if i%3 == 0 {
			f[r.Intn(2)].Text += junk()
		}
		report := Analyze(f, config)
		n, before := Net(f, config)
		if len(before.Errors) > 0 {
			if text.Text(report) != text.Text(before) || len(n.Hosts) != 0 {
				t.Fatal(text.Text(report))
			}
			continue
		}
		for _, s := range report.Seen {
			if !replay.Right(n, s) || len(replay.Path(n, s)) != len(s.Picks)+1 {
				t.Fatal(s)
			}
		}
		printed, c := again.Files(n)
		if s := Analyze(printed, conf.Text(c)); text.Text(s) != text.Text(report) && report.Err == api.OK {
			t.Fatalf("%q\n%s\n%s", f, text.Text(report), text.Text(s))
		}
		if !slices.EqualFunc(report.Flaws, find.Flaws(n), func(a, b check.Flaw) bool { return check.Compare(a, b) == 0 }) ||
			!slices.EqualFunc(report.Edges, edge.Flaws(n), func(a, b edge.Flaw) bool { return edge.Compare(a, b) == 0 }) {
			t.Fatal(text.Text(report))
		}
	}
}
