package again

import (
	"math/rand"
	"slices"
	"strconv"
	"testing"

	"toponym/api"
	"toponym/conf"
	"toponym/load"
	"toponym/name"
	"toponym/net"
	"toponym/print"
	"toponym/rdata"
	"toponym/rec"
	"toponym/zone"
)

func sample(t *testing.T) net.Net {
	t.Helper()
	c, _, e := conf.Parse("bound 3 4\nserver Ns. 10.0.0.1\nzone . r\nzone O\\.rg. o\nserver lone. 10.0.0.2\nserver b. 10.0.0.3\nzone o\\.RG. o\nroot b.\nroot Ns.\n")
	if e != api.OK {
		t.Fatal(e)
	}
	n, faults := net.Load([]load.File{
		{Path: "r", Text: "$TTL 5\n@ SOA a b 1 2 3 4 5\n@ NS a\nA 7 TXT \"x;\\\"\" \\000\n"},
		{Path: "o", Text: "$TTL 5\nx 1 TYPE99 \\# 2 00ff\n* 9 DNAME X\nout. MX 3 q\n"},
	}, c)
	if len(faults) > 0 {
		t.Fatal(faults[0])
	}
	return n
}

func TestP2701Files(t *testing.T) {
	n := sample(t)
	files, c := Files(n)
	if len(files) != 3 || files[0].Path != "0/0" || files[1].Path != "0/1" || files[2].Path != "2/0" {
		t.Fatal(files)
	}
	for i, z := range []zone.Zone{n.Hosts[0].Zones[0], n.Hosts[0].Zones[1], n.Hosts[2].Zones[0]} {
		if files[i].Text != print.File(z.Recs, z.Origin) {
			t.Error(files[i].Text)
		}
	}
	if s := conf.Text(c); s != "bound 3 4\nserver Ns. 10.0.0.1\nzone . 0/0\nzone O\\.rg. 0/1\nserver lone. 10.0.0.2\nserver b. 10.0.0.3\nzone o\\.RG. 2/0\nroot b.\nroot Ns.\n" {
		t.Error(s)
	}
	c.Roots[0], c.Servers[0].Host[0], c.Servers[0].Zones[1].Origin[0] = 9, "z", "z"
	if n.Roots[0] != 2 || n.Hosts[0].Name[0] != "Ns" || n.Hosts[0].Zones[1].Origin[0] != "O.rg" {
		t.Error("shared")
	}
}

func TestP2701Same(t *testing.T) {
	n := sample(t)
	if !Same(n, sample(t)) || !Same(net.Net{}, net.Net{Hosts: []net.Host{}, Roots: []int{}}) {
		t.Error("alike")
	}
	folded := sample(t)
	folded.Hosts[0].Name[0] = "nS"
	folded.Hosts[0].Zones[1].Origin[0] = "o.RG"
	folded.Hosts[0].Zones[1].Recs[1].Owner[0] = "X"
	if !Same(n, folded) {
		t.Error("folded")
	}
	for i, change := range []func(n *net.Net){
		func(n *net.Net) { n.Rewrites++ },
		func(n *net.Net) { n.Referrals++ },
		func(n *net.Net) { n.Roots = []int{0, 2} },
		func(n *net.Net) { n.Roots = n.Roots[:1] },
		func(n *net.Net) { n.Hosts = n.Hosts[:2] },
		func(n *net.Net) { n.Hosts[1].Name[0] = "x" },
		func(n *net.Net) { n.Hosts[1].Addr[3]++ },
		func(n *net.Net) { slices.Reverse(n.Hosts[0].Zones) },
		func(n *net.Net) { n.Hosts[0].Zones[1].Origin[0] = "q" },
		func(n *net.Net) { n.Hosts[0].Zones[1].Recs[0].TTL++ },
		func(n *net.Net) { n.Hosts[0].Zones[0].Recs[1].Data.Nums[0]++ },
		func(n *net.Net) { slices.Reverse(n.Hosts[0].Zones[0].Recs) },
	} {
		other := sample(t)
		change(&other)
		if Same(n, other) || Same(other, n) {
			t.Error(i)
		}
	}
}

func TestP2702(t *testing.T) {
	n := sample(t)
	files, c := Files(n)
	back, faults := net.Load(files, c)
	if len(faults) > 0 || !Same(n, back) {
		t.Error(faults)
	}
	r := rand.New(rand.NewSource(27))
	labels := []string{"a", "A", "*", "@", "$x", "x.y", " ", "(\"", "\\", "\x00\xff", "IN", "1"}
	some := func() name.Name {
		var n name.Name
		for range r.Intn(4) {
			n = append(n, labels[r.Intn(len(labels))])
		}
		return n
	}
	for range 500 {
		var files []load.File
		c := conf.Config{Roots: []int{r.Intn(2)}, Rewrites: r.Intn(9), Referrals: r.Intn(17)}
		for i := range 2 {
			var l []rec.Rec
			for range r.Intn(9) {
				l = append(l, rec.Rec{Owner: some(), TTL: uint32(r.Intn(3)), Data: rdata.Data{Type: api.MX, Names: []name.Name{some()}, Nums: []uint32{uint32(r.Intn(3))}}})
			}
			path := strconv.Itoa(i)
			files = append(files, load.File{Path: path, Text: print.Lines(l)})
			c.Servers = append(c.Servers, conf.Server{Host: name.Name{path}, Addr: [4]byte{byte(i)}, Zones: []conf.Place{{Origin: some(), Path: path}}})
		}
		n, faults := net.Load(files, c)
		if len(faults) > 0 {
			t.Fatal(faults[0])
		}
		back, faults := net.Load(Files(n))
		if len(faults) > 0 || !Same(n, back) {
			t.Fatal(files, faults)
		}
	}
}

func TestP2702WithAllRecords(t *testing.T) {
	c, _, _ := conf.Parse("bound 0 0\nserver a. 1.1.1.1\nzone . r\nroot a.\n")
	n, faults := net.Load([]load.File{{Path: "r", Text: "$TTL 1\n$GENERATE 1-4096 h$ A 1.2.3.4\n"}}, c)
	if len(faults) > 0 || len(n.Hosts[0].Zones[0].Recs) != api.MaxRecs {
		t.Fatal(faults)
	}
	back, faults := net.Load(Files(n))
	if len(faults) > 0 || !Same(n, back) {
		t.Error(faults)
	}
}
