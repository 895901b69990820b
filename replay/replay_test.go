package replay

import (
	"strings"
	"testing"

	"toponym/api"
	"toponym/conf"
	"toponym/find"
	"toponym/load"
	"toponym/name"
	"toponym/net"
	"toponym/step"
)

const config = "bound 1 2\nserver Ns. 10.0.0.1\nzone . 0\nserver b. 10.0.0.2\nzone org. 1\nroot Ns.\n"

func sample(t *testing.T) net.Net {
	t.Helper()
	c, _, e := conf.Parse(config)
	if e != api.OK {
		t.Fatal(e)
	}
	n, faults := net.Load([]load.File{{Path: "0", Text: "$TTL 1\norg NS b.\norg NS none.\nl CNAME l\nnet NS b.\nto CNAME X.Org.\n"}, {Path: "1", Text: "$TTL 1\nx A 1.2.3.4\n"}}, c)
	if len(faults) > 0 {
		t.Fatal(faults[0])
	}
	return n
}

func TestP2401Right(t *testing.T) {
	n := sample(t)
	l, e := find.Runs(n)
	if e != api.OK || len(l) < 3 {
		t.Fatal(l, e)
	}
	for _, s := range l {
		if !Right(n, s) {
			t.Error(s)
		}
		wrong := s
		wrong.Kind = step.Found
		if Right(n, wrong) {
			t.Error(wrong)
		}
		wrong = s
		wrong.Picks = append(wrong.Picks[:len(wrong.Picks):len(wrong.Picks)], 0)
		if Right(n, wrong) {
			t.Error(wrong)
		}
		wrong.Picks = s.Picks[:len(s.Picks)-1]
		if Right(n, wrong) {
			t.Error(wrong)
		}
	}
	good := find.Seen{Kind: step.Lame, Name: name.Name{"q", "net"}, Type: api.A, Picks: []int{0, 0, 0}}
	if !Right(n, good) {
		t.Error(good)
	}
	for i, s := range []find.Seen{
		{Kind: step.Lame, Name: name.Name{"", "net"}, Type: api.A, Picks: good.Picks},
		{Kind: step.Lame, Name: name.Name{strings.Repeat("x", 64), "net"}, Type: api.A, Picks: good.Picks},
		{Kind: step.Lame, Name: good.Name, Type: 3, Picks: good.Picks},
		{Kind: step.Lame, Name: good.Name, Type: 0, Picks: good.Picks},
		{Kind: step.Lame, Name: good.Name, Type: api.A, Picks: []int{0, 1, 0}},
		{Kind: step.Lame, Name: good.Name, Type: api.A, Picks: []int{-1}},
		{Kind: step.Lame, Name: good.Name, Type: api.A},
		{},
	} {
		if Right(n, s) {
			t.Error(i)
		}
	}
	if !Right(n, find.Seen{Kind: step.Missing, Name: name.Name{"y", "ORG"}, Type: api.MX, Picks: []int{0, 0, 0}}) {
		t.Error("another end")
	}
}

func TestP2401Path(t *testing.T) {
	n := sample(t)
	for _, c := range []struct {
		q     string
		picks []int
		want  string
	}{
		{"q.net.", []int{0, 0, 0}, "Ns. q.net.|b. q.net.|b. q.net.|lame"},
		{"q.net.", []int{0, 0}, "Ns. q.net.|b. q.net.|going"},
		{"q.net.", []int{0, 0, 5, 0}, "Ns. q.net.|b. q.net.|going"},
		{"q.net.", []int{0, 0, 0, 0}, "Ns. q.net.|b. q.net.|b. q.net.|lame"},
		{"To.", []int{0, 0, 0, 0}, "Ns. To.|Ns. X.Org.|b. X.Org.|b. X.Org.|found"},
		{"Org.", []int{0, 1}, "Ns. Org.|Ns. Org.|gone"},
		{"Org.", []int{1}, ""},
		{"Org.", []int{-1}, ""},
		{"Org.", nil, ""},
	} {
		q, _ := name.Parse(c.q, nil)
		l := Path(n, find.Seen{Name: q, Type: api.A, Picks: c.picks})
		if s := strings.Join(l, "|"); s != c.want || s == "" && len(l) > 0 {
			t.Errorf("%s %v: %s", c.q, c.picks, s)
		}
	}
	n.Roots = []int{-1, 2, 9}
	for p := range 3 {
		Path(n, find.Seen{Picks: []int{p, 0}})
	}
}
