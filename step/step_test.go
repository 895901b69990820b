package step

import (
	"strconv"
	"strings"
	"testing"

	"toponym/api"
	"toponym/conf"
	"toponym/load"
	"toponym/name"
	"toponym/net"
	"toponym/rdata"
	"toponym/rec"
	"toponym/zone"
)

const config = `bound 2 2
server a. 10.0.0.1
zone . root
server b. 10.0.0.2
zone Org. org
server c. 10.0.0.3
zone . root2
server d. 10.0.0.4
zone q. q
root c.
root a.
`

func sample(t *testing.T) net.Net {
	t.Helper()
	c, _, e := conf.Parse(config)
	if e != api.OK {
		t.Fatal(e)
	}
	long := strings.Repeat("x", 63)
	n, faults := net.Load([]load.File{
		{Path: "root", Text: "$TTL 1\n@ NS a.\norg NS b.\norg NS c\norg NS none.\norg NS ns.org.\norg NS d.\nns.org A 10.0.0.3\nns.org A 10.0.0.2\nns.org A 10.0.0.9\nd A 10.9.9.9\nsix NS a\nsix NS b\nb AAAA 1:0:0:0:0:0:0:0\nx A 1.2.3.4\nalias CNAME X\nloop CNAME loop\n"},
		{Path: "root2", Text: "$TTL 1\nx TXT x\n"},
		{Path: "org", Text: "$TTL 1\nx A 1.2.3.4\nout CNAME Else.\nin CNAME x\nfull DNAME " + long + "." + long + "." + long + ".\n"},
		{Path: "q", Text: "$TTL 1\nx A 1.2.3.4\n"},
	}, c)
	if len(faults) > 0 {
		t.Fatal(faults[0])
	}
	return n
}

func show(l []State) string {
	var out []string
	for _, s := range l {
		x := strconv.Itoa(s.Server) + " " + name.Text(s.Name) + " " + strconv.Itoa(s.Rewrites) + strconv.Itoa(s.Referrals)
		if s.Referred {
			x += " referred"
		}
		if s.End != Going {
			x += " " + Word(s.End)
		}
		out = append(out, x)
	}
	return strings.Join(out, "|")
}

func n(s string) name.Name {
	x, e := name.Parse(s, nil)
	if e != api.OK {
		panic(s)
	}
	return x
}

func TestP2001Start(t *testing.T) {
	x := sample(t)
	q := n("Q")
	if s := show(Start(x, q)); s != "2 Q. 00|0 Q. 00" {
		t.Error(s)
	}
	l := Start(x, q)
	l[0].Name[0] = "z"
	if q[0] != "Q" || l[1].Name[0] != "Q" {
		t.Error("shared")
	}
	if len(Start(net.Net{}, q)) != 0 {
		t.Error("no roots")
	}
}

func TestP2001Next(t *testing.T) {
	x := sample(t)
	for _, c := range []struct {
		s    State
		t    int
		want string
	}{
		{State{Server: 0, Name: n("X"), Rewrites: 1, Referrals: 2, Referred: true}, api.A, "0 X. 12 referred found"},
		{State{Server: 0, Name: n("x")}, api.TXT, "0 x. 00 empty"},
		{State{Server: 0, Name: n("nope")}, api.A, "0 nope. 00 missing"},
		{State{Server: 1, Name: n(strings.Repeat("y", 63) + ".full.org")}, api.A, "1 " + strings.Repeat("y", 63) + ".full.org. 00 toolong"},
		{State{Server: 1, Name: n("x")}, api.A, "1 x. 00 refused"},
		{State{Server: 1, Name: n("x"), Referred: true}, api.A, "1 x. 00 referred lame"},
		{State{Server: 9, Name: n("x")}, api.A, "9 x. 00 refused"},
		{State{Server: -1, Name: n("x"), Referred: true}, api.A, "-1 x. 00 referred lame"},
		{State{Server: 0, Name: n("alias"), Referrals: 2, Referred: true}, api.A, "0 X. 12"},
		{State{Server: 0, Name: n("alias")}, api.CNAME, "0 alias. 00 found"},
		{State{Server: 1, Name: n("in.org"), Referred: true}, api.A, "1 x.Org. 10"},
		{State{Server: 1, Name: n("out.org"), Rewrites: 1, Referrals: 1, Referred: true}, api.A, "2 Else. 21|0 Else. 21"},
		{State{Server: 1, Name: n("out.org"), Rewrites: 2, Referrals: 1, Referred: true}, api.A, "1 out.org. 21 referred loop"},
		{State{Server: 0, Name: n("loop"), Rewrites: 2}, api.A, "0 loop. 20 loop"},
		{State{Server: 0, Name: n("y.ORG"), Rewrites: 1}, api.A, "1 y.ORG. 11 referred|2 y.ORG. 11 referred|0 y.ORG. 11 gone|0 y.ORG. 11 gone|1 y.ORG. 11 referred|2 y.ORG. 11 referred"},
		{State{Server: 0, Name: n("y.org"), Referrals: 2}, api.A, "0 y.org. 02 far"},
		{State{Server: 0, Name: n("six"), Referrals: 1, Referred: true}, api.A, "0 six. 02 referred|1 six. 02 referred"},
	} {
		if s := show(Next(x, c.s, c.t)); s != c.want {
			t.Errorf("%v: %s; want %s", c.s, s, c.want)
		}
	}
	for end := Found; end <= Gone+1; end++ {
		if l := Next(x, State{Name: n("x"), End: end}, api.A); len(l) != 0 {
			t.Error(end, l)
		}
	}
}

func TestP2001GoneKeepsReferred(t *testing.T) {
	x := sample(t)
	l := Next(x, State{Server: 0, Name: n("y.org"), Referred: true}, api.A)
	if s := show(l); !strings.Contains(s, "0 y.org. 01 referred gone") {
		t.Error(s)
	}
	x.Roots = nil
	if l := Next(x, State{Server: 1, Name: n("out.org")}, api.A); len(l) != 0 {
		t.Error(l)
	}
}

func TestP10OddRecords(t *testing.T) {
	odd := net.Net{Referrals: 1, Hosts: []net.Host{{Name: name.Name{""}, Zones: []zone.Zone{{Recs: []rec.Rec{{Owner: name.Name{""}, Data: rdata.Data{Type: api.NS}}, {Owner: name.Name{""}, Data: rdata.Data{Type: api.NS, Names: []name.Name{{""}, {"x"}}}}}}}}}}
	if s := show(Next(odd, State{Name: name.Name{"", ""}}, 1)); s != "0 .. 01 referred" {
		t.Error(s)
	}
}

func TestP2001WordAndSame(t *testing.T) {
	for k, w := range strings.Fields("going found empty missing toolong refused lame loop far gone") {
		if Word(k) != w {
			t.Error(k)
		}
	}
	if Word(-1) != "" || Word(10) != "" {
		t.Error("no such end")
	}
	a := State{1, n("A"), 2, 3, true, 4}
	if !Same(a, State{1, n("a"), 2, 3, true, 4}) {
		t.Error("folded")
	}
	for i, b := range []State{{0, n("a"), 2, 3, true, 4}, {1, n("b"), 2, 3, true, 4}, {1, n("a"), 0, 3, true, 4}, {1, n("a"), 2, 0, true, 4}, {1, n("a"), 2, 3, false, 4}, {1, n("a"), 2, 3, true, 0}} {
		if Same(a, b) {
			t.Error(i)
		}
	}
}
