package rtype

import (
	"slices"
	"testing"

	"toponym/api"
)

func TestP301Names(t *testing.T) {
	want := map[int]string{api.A: "A", api.NS: "NS", api.CNAME: "CNAME", api.SOA: "SOA", api.PTR: "PTR", api.MX: "MX", api.TXT: "TXT", api.AAAA: "AAAA", api.DNAME: "DNAME"}
	for n := -2; n < 70000; n++ {
		if _, ok := want[n]; Known(n) != ok {
			t.Errorf("Known %d", n)
		}
	}
	for n, s := range want {
		if Text(n) != s {
			t.Errorf("%d: %s", n, Text(n))
		}
		if back, e := Parse(s); back != n || e != api.OK {
			t.Errorf("%s: %d, %v", s, back, e)
		}
	}
	for n, s := range map[int]string{0: "TYPE0", 3: "TYPE3", 65535: "TYPE65535", 65536: "TYPE65536", -7: "TYPE-7"} {
		if Text(n) != s {
			t.Errorf("%d: %s", n, Text(n))
		}
	}
	all := []int{1, 2, 5, 6, 12, 15, 16, 28, 39}
	l := All()
	if !slices.Equal(l, all) {
		t.Error(l)
	}
	l[0] = 9
	if !slices.Equal(All(), all) {
		t.Error("All is shared")
	}
}

func TestP301Parse(t *testing.T) {
	for s, want := range map[string]int{"a": 1, "aAaA": 28, "dname": 39, "TYPE1": 1, "type65535": 65535, "tYpE10": 10} {
		if n, e := Parse(s); n != want || e != api.OK {
			t.Errorf("%q: %d, %v", s, n, e)
		}
	}
	for s, want := range map[string]api.Errno{"TYPE0": api.ErrOver, "TYPE65536": api.ErrOver, "type99999999999999999999": api.ErrOver, "": api.ErrType, "TYPE": api.ErrType, "TYPE01": api.ErrType, "TYPE00": api.ErrType, "TYPE-1": api.ErrType, "TYPE 1": api.ErrType, "AA": api.ErrType, " A": api.ErrType, "1": api.ErrType, "P\u0131R": api.ErrType, "n\u017f": api.ErrType} {
		if n, e := Parse(s); n != 0 || e != want {
			t.Errorf("%q: %d, %v, want %v", s, n, e, want)
		}
	}
}
