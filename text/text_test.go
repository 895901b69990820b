package text

import (
	"slices"
	"strings"
	"testing"

	"toponym/api"
	"toponym/check"
	"toponym/edge"
	"toponym/find"
	"toponym/load"
	"toponym/name"
	"toponym/step"
)

func TestP2501(t *testing.T) {
	r := Report{
		Errors: []*load.Fault{{Path: "p q", Line: 3, Err: api.ErrDeep}, {Err: api.ErrArg}},
		Flaws:  []check.Flaw{{Kind: check.NoSOA, Owner: nil, Type: api.SOA}, {Kind: check.WildNS, Owner: name.Name{"*", "A.b"}, Type: 99}},
		Edges:  []edge.Flaw{{Kind: edge.NoChild, Parent: nil, Child: name.Name{"c"}}, {Kind: edge.GlueDiffers, Parent: name.Name{"P"}, Child: name.Name{"c", "p"}, Host: name.Name{"ns", ""}, Server: 12}},
		Seen:   []find.Seen{{Kind: step.Lame, Name: name.Name{"x"}, Type: api.A, Picks: []int{0, 12, 3}}, {Kind: step.Gone, Type: api.TXT}, {Kind: step.Loop, Name: name.Name{"a"}, Type: 1, Picks: []int{7}}},
		Err:    api.ErrMany,
	}
	want := []string{
		"error p q:3: deep",
		"error :0: arg",
		"flaw nosoa . SOA",
		`flaw wildns *.A\.b. TYPE99`,
		"edge nochild . c. - 0",
		"edge gluediffers P. c.p. ns.. 12",
		"seen lame x. A 0,12,3",
		"seen gone . TXT -",
		"seen loop a. A 7",
		"stopped many",
	}
	if l := Lines(r); !slices.Equal(l, want) {
		t.Errorf("%q", l)
	}
	if s := Text(r); s != strings.Join(want, "\n")+"\n" {
		t.Error(s)
	}
	if len(Lines(Report{})) != 0 || Text(Report{}) != "" {
		t.Error("of nothing")
	}
	if s := Text(Report{Err: api.ErrForm}); s != "stopped form\n" {
		t.Error(s)
	}
	if s := Text(Report{Edges: []edge.Flaw{{Kind: edge.NSDiffers}}, Flaws: []check.Flaw{{Kind: check.Mixed, Type: api.CNAME}}}); s != "flaw mixed . CNAME\nedge nsdiffers . . - 0\n" {
		t.Error(s)
	}
}

func TestRowsMayBeLeftEarly(t *testing.T) {
	r := Report{Errors: []*load.Fault{{}, {}}, Flaws: make([]check.Flaw, 2), Edges: make([]edge.Flaw, 2), Seen: make([]find.Seen, 2), Err: api.ErrArg}
	for stop := 1; stop <= 9; stop++ {
		count := 0
		for range rows(r) {
			if count++; count == stop {
				break
			}
		}
		if count != stop {
			t.Error(stop, count)
		}
	}
}
