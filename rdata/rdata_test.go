package rdata

import (
	"strings"
	"testing"

	"toponym/api"
	"toponym/name"
)

var (
	org   = name.Name{"Org"}
	badly = name.Name{""}
)

func words(l ...string) []Word {
	var out []Word
	for _, s := range l {
		if strings.HasPrefix(s, "\"") {
			out = append(out, Word{s[1:], true})
		} else {
			out = append(out, Word{s, false})
		}
	}
	return out
}

func soa(a, b name.Name, nums ...uint32) Data {
	return Data{Type: api.SOA, Names: []name.Name{a, b}, Nums: nums}
}

func TestP401Check(t *testing.T) {
	long := strings.Repeat("x", 256)
	ones := strings.Split(strings.Repeat("x", 33), "")
	n := []name.Name{org}
	for _, c := range []struct {
		d    Data
		want api.Errno
	}{
		{Data{}, api.ErrType}, {Data{Type: -1}, api.ErrType}, {Data{Type: 65536}, api.ErrType}, {Data{Type: 65535}, api.OK},
		{Data{Type: api.A, Raw: make([]byte, 4)}, api.OK}, {Data{Type: api.A, Raw: make([]byte, 3)}, api.ErrForm}, {Data{Type: api.A, Raw: make([]byte, 4), Nums: []uint32{1}}, api.ErrForm},
		{Data{Type: api.AAAA, Raw: make([]byte, 16)}, api.OK}, {Data{Type: api.AAAA, Raw: make([]byte, 17)}, api.ErrForm},
		{Data{Type: api.NS, Names: n}, api.OK}, {Data{Type: api.CNAME, Names: n}, api.OK}, {Data{Type: api.PTR, Names: n}, api.OK}, {Data{Type: api.DNAME, Names: n}, api.OK},
		{Data{Type: api.NS}, api.ErrForm}, {Data{Type: api.NS, Names: []name.Name{org, org}}, api.ErrForm}, {Data{Type: api.NS, Names: n, Raw: []byte{1}}, api.ErrForm}, {Data{Type: api.NS, Names: n, Texts: ones[:1]}, api.ErrForm},
		{Data{Type: api.NS, Names: []name.Name{badly}}, api.ErrEmpty},
		{Data{Type: api.MX, Names: n, Nums: []uint32{65535}}, api.OK}, {Data{Type: api.MX, Names: n, Nums: []uint32{65536}}, api.ErrOver}, {Data{Type: api.MX, Names: n}, api.ErrForm},
		{Data{Type: api.MX, Names: []name.Name{badly}, Nums: []uint32{65536}}, api.ErrEmpty},
		{soa(org, nil, 1, 2, 3, 4, 4294967295), api.OK}, {soa(org, nil, 1, 2, 3, 4), api.ErrForm}, {soa(badly, name.Name{long}, 1, 2, 3, 4, 5), api.ErrEmpty}, {soa(name.Name{long}, badly, 1, 2, 3, 4, 5), api.ErrLong},
		{Data{Type: api.TXT}, api.ErrForm}, {Data{Type: api.TXT, Texts: ones[:32]}, api.OK}, {Data{Type: api.TXT, Texts: ones}, api.ErrForm}, {Data{Type: api.TXT, Texts: []string{"", long[1:]}}, api.OK}, {Data{Type: api.TXT, Texts: []string{long}}, api.ErrLong},
		{Data{Type: 99}, api.OK}, {Data{Type: 99, Raw: make([]byte, 1024)}, api.OK}, {Data{Type: 99, Raw: make([]byte, 1025)}, api.ErrLong}, {Data{Type: 99, Raw: make([]byte, 1025), Names: []name.Name{badly}}, api.ErrForm},
	} {
		if e := Check(c.d); e != c.want {
			t.Errorf("%v: %v, want %v", c.d, e, c.want)
		}
	}
}

func TestP401TextAndBack(t *testing.T) {
	for _, c := range []struct {
		d    Data
		want string
	}{
		{Data{Type: api.A, Raw: []byte{0, 10, 255, 1}}, "0.10.255.1"},
		{Data{Type: api.AAAA, Raw: []byte{0x20, 1, 0xd, 0xb8, 0, 0, 0, 0, 0, 0, 0, 0, 0, 0xf, 0xab, 0xcd}}, "2001:db8:0:0:0:0:f:abcd"},
		{Data{Type: api.NS, Names: []name.Name{{"Ns", "a.b"}}}, "Ns.a\\.b."},
		{Data{Type: api.CNAME, Names: []name.Name{nil}}, "."},
		{Data{Type: api.MX, Names: []name.Name{org}, Nums: []uint32{10}}, "10 Org."},
		{soa(name.Name{"m"}, name.Name{"r"}, 0, 1, 2, 3, 4294967295), "m. r. 0 1 2 3 4294967295"},
		{Data{Type: api.TXT, Texts: []string{"", "a b", "\"\\;\x00\xff\xc8\x7f~ "}}, `"" "a b" "\"\\;\000\255\200\127~ "`},
		{Data{Type: 99}, `\# 0`},
		{Data{Type: 65280, Raw: []byte{0, 0xab, 0x10}}, `\# 3 00ab10`},
	} {
		s := Text(c.d)
		if s != c.want {
			t.Errorf("%v: %s", c.d, s)
		}
		var l []Word
		if c.d.Type == api.TXT {
			for _, x := range c.d.Texts {
				q := quoted(x)
				l = append(l, Word{q[1 : len(q)-1], true})
			}
		} else {
			l = words(strings.Split(s, " ")...)
		}
		if d, e := Parse(c.d.Type, l, org); e != api.OK || !Same(d, c.d) || Text(d) != s {
			t.Errorf("%s: back %v, %v", s, d, e)
		}
	}
}

func TestP401ParseForms(t *testing.T) {
	for _, c := range []struct {
		t    int
		l    []Word
		want string
	}{
		{api.NS, words("a"), "a.Org."}, {api.NS, words("@"), "Org."}, {api.NS, words("a."), "a."},
		{api.A, words(`\#`, "4", "0a", "0", "00001"), "10.0.0.1"}, {api.A, words(`\#`, "4", "", "0a000001"), "10.0.0.1"},
		{api.AAAA, words("0001:A:b:C:0:00:000:0000"), "1:a:b:c:0:0:0:0"}, {api.AAAA, words(`\#`, "16", strings.Repeat("fF", 16)), "ffff:ffff:ffff:ffff:ffff:ffff:ffff:ffff"},
		{99, words(`\#`, "0"), `\# 0`}, {99, words(`\#`, "2", "aB", "", "0", "1"), `\# 2 ab01`},
		{api.TXT, words("a.b", "\"", "\"\\065\\.\\\"", `\\#`), `"a.b" "" "A.\"" "\\#"`}, {api.TXT, words("\"\\#"), `"#"`}, {api.TXT, words("\\a.b\\100"), `"a.bd"`}, {65535, words(`\#`, "11", "0123456789abcdefABCDEF"), `\# 11 0123456789abcdefabcdef`},
		{api.MX, words("0", "."), "0 ."},
	} {
		if d, e := Parse(c.t, c.l, org); e != api.OK || Text(d) != c.want {
			t.Errorf("%d %v: %s, %v", c.t, c.l, Text(d), e)
		}
	}
	if d, e := Parse(99, words(`\#`, "1024", strings.Repeat("00", 1024)), nil); e != api.OK || len(d.Raw) != 1024 {
		t.Error("MaxData")
	}
	if d, e := Parse(api.TXT, words(strings.Repeat("x", 255)), nil); e != api.OK || len(d.Texts[0]) != 255 {
		t.Error("a text's bound")
	}
}

func TestP401ParseErrors(t *testing.T) {
	for _, c := range []struct {
		t    int
		l    []Word
		want api.Errno
	}{
		{0, nil, api.ErrType}, {65536, words(`\#`), api.ErrType}, {-1, words("x"), api.ErrType},
		{api.A, nil, api.ErrForm}, {api.A, words("1.2.3.4", "x"), api.ErrForm}, {api.A, words("\"1.2.3.4"), api.ErrForm}, {api.A, words("1.2.3"), api.ErrForm}, {api.A, words("1.2.3.4.5"), api.ErrForm}, {api.A, words("1.2.3."), api.ErrForm},
		{api.A, words("01.2.3.4"), api.ErrForm}, {api.A, words("256.2.3.4"), api.ErrOver}, {api.A, words("1.x.256.4"), api.ErrForm}, {api.A, words("1.256.x.4"), api.ErrOver}, {api.A, words("1.0256.3.4"), api.ErrForm}, {api.A, words("1.2.3.99999999999999999999"), api.ErrOver},
		{api.AAAA, words("1:2:3:4:5:6:7"), api.ErrForm}, {api.AAAA, words("1:2:3:4:5:6:7:8:9"), api.ErrForm}, {api.AAAA, words("::"), api.ErrForm}, {api.AAAA, words("1::3:4:5:6:7:8"), api.ErrForm}, {api.AAAA, words("1:2:3:4:5:6:7:00008"), api.ErrForm}, {api.AAAA, words("1:2:3:4:5:6:7:g"), api.ErrForm},
		{api.NS, words("\"a"), api.ErrForm}, {api.NS, words("a..b"), api.ErrEmpty}, {api.NS, words("\\256"), api.ErrOver}, {api.NS, words("a", "b"), api.ErrForm}, {api.PTR, nil, api.ErrForm},
		{api.MX, words("65536", "a"), api.ErrOver}, {api.MX, words("65535", "a"), api.OK}, {api.MX, words("01", "a"), api.ErrForm}, {api.MX, words("65536", "a..b"), api.ErrOver}, {api.MX, words("65536", "\"a"), api.ErrOver}, {api.MX, words("1"), api.ErrForm}, {api.MX, words("65536", "a", "b"), api.ErrForm}, {api.MX, words("-1", "a"), api.ErrForm},
		{api.SOA, words("a", "b", "1", "2", "3", "4"), api.ErrForm}, {api.SOA, words("a", "b", "1", "2", "3", "4", "4294967296"), api.ErrOver}, {api.SOA, words("a", "b..", "4294967296", "2", "3", "4", "x"), api.ErrEmpty}, {api.SOA, words("a", "b", "4294967296", "2", "3", "4", "x"), api.ErrOver},
		{api.TXT, nil, api.ErrForm}, {api.TXT, make([]Word, 32), api.OK}, {api.TXT, make([]Word, 33), api.ErrForm}, {api.TXT, words(strings.Repeat("x", 256)), api.ErrLong}, {api.TXT, words("\\256"), api.ErrOver}, {api.TXT, words("\\1.2"), api.ErrForm}, {api.TXT, words("\\900"), api.ErrOver}, {api.TXT, words("\\9"), api.ErrForm}, {api.TXT, words("\\"), api.ErrForm}, {api.TXT, words(strings.Repeat("x", 256) + "\\12"), api.ErrForm}, {api.TXT, words(strings.Repeat("x", 256), "\\"), api.ErrLong},
		{api.TXT, words(`\#`, "0"), api.ErrType}, {api.MX, words(`\#`), api.ErrType}, {api.NS, words(`\#`, "\"x"), api.ErrType},
		{99, nil, api.ErrForm}, {99, words("x"), api.ErrForm}, {99, words(`"\#`, "0"), api.ErrForm}, {99, words(`\#`), api.ErrForm}, {99, words(`\#`, "\"0"), api.ErrForm}, {99, words(`\#`, "00"), api.ErrForm}, {99, words(`\#`, "x"), api.ErrForm},
		{99, words(`\#`, "4294967296", "x"), api.ErrOver}, {99, words(`\#`, "4294967295", "x"), api.ErrLong}, {99, words(`\#`, "1025", "x"), api.ErrLong}, {99, words(`\#`, "1024", "x"), api.ErrForm},
		{99, words(`\#`, "1", "0"), api.ErrForm}, {99, words(`\#`, "1", "000"), api.ErrForm}, {99, words(`\#`, "1", "0000"), api.ErrForm}, {99, words(`\#`, "1"), api.ErrForm}, {99, words(`\#`, "0", "00"), api.ErrForm}, {99, words(`\#`, "1", "0g"), api.ErrForm}, {99, words(`\#`, "1", "\"00"), api.ErrForm},
		{api.A, words(`\#`, "3", "000000"), api.ErrForm}, {api.AAAA, words(`\#`, "4", "00000000"), api.ErrForm},
	} {
		d, e := Parse(c.t, c.l, org)
		if e != c.want || e != api.OK && !Same(d, Data{}) {
			t.Errorf("%d %v: %v, want %v", c.t, c.l, e, c.want)
		}
	}
}

func TestP401Order(t *testing.T) {
	a, b := name.Name{"a"}, name.Name{"B"}
	rising := []Data{
		{Type: -1}, {Type: 1}, {Type: 1, Raw: []byte{1}}, {Type: 1, Raw: []byte{1, 0}}, {Type: 1, Raw: []byte{1, 1}}, {Type: 1, Raw: []byte{1, 1, 0}}, {Type: 1, Raw: []byte{200}},
		{Type: 1, Texts: []string{""}}, {Type: 1, Texts: []string{"A"}}, {Type: 1, Texts: []string{"a"}},
		{Type: 1, Nums: []uint32{1}}, {Type: 1, Nums: []uint32{1, 0}}, {Type: 1, Nums: []uint32{1, 7}}, {Type: 1, Nums: []uint32{4294967295}},
		{Type: 1, Names: []name.Name{{}}}, {Type: 1, Names: []name.Name{a}, Raw: []byte{9}}, {Type: 1, Names: []name.Name{a, a}}, {Type: 1, Names: []name.Name{a, b}}, {Type: 1, Names: []name.Name{b}},
		{Type: 2},
	}
	for i, x := range rising {
		for k, y := range rising {
			want := 0
			if i < k {
				want = -1
			} else if i > k {
				want = 1
			}
			if c := Compare(x, y); c != want || Same(x, y) != (i == k) {
				t.Errorf("%v, %v: %d", x, y, c)
			}
		}
	}
	if !Same(Data{Type: 2, Names: []name.Name{{"A"}}}, Data{Type: 2, Names: []name.Name{{"a"}}, Raw: []byte{}}) {
		t.Error("folded")
	}
}

func TestP1TextOfAnything(t *testing.T) {
	for _, k := range []int{-1, 0, 1, 2, 5, 6, 12, 15, 16, 28, 39, 99} {
		Text(Data{Type: k})
		Text(Data{Type: k, Names: []name.Name{nil, {""}}, Nums: []uint32{1}, Texts: []string{""}, Raw: []byte{1}})
	}
}
