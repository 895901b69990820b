package run

import (
	"math/rand"
	"slices"
	"strconv"
	"strings"
	"testing"

	"toponym/api"
	"toponym/conf"
	"toponym/load"
	"toponym/name"
	"toponym/net"
	"toponym/step"
)

// network loads a net of a configuration and of zone texts, given as path, text, path, text ..
func network(t *testing.T, config string, texts ...string) net.Net {
	t.Helper()
	c, line, e := conf.Parse(config)
	if e != api.OK {
		t.Fatal(line, e)
	}
	var files []load.File
	for i := 0; i < len(texts); i += 2 {
		files = append(files, load.File{Path: texts[i], Text: "$TTL 1\n" + texts[i+1]})
	}
	n, faults := net.Load(files, c)
	if len(faults) > 0 {
		t.Fatal(faults[0])
	}
	return n
}

const config = "bound 2 2\nserver a. 10.0.0.1\nzone . root\nserver b. 10.0.0.2\nzone org. org\nserver c. 10.0.0.3\nroot c.\nroot a.\n"

func sample(t *testing.T) net.Net {
	return network(t, config,
		"root", "x A 1.2.3.4\norg NS b.\norg NS c.\norg NS none.\nloop CNAME loop\nto CNAME x.org.\nback CNAME back.org.\n",
		"org", "x A 1.2.3.4\nback CNAME back.\n")
}

func show(l []End) string {
	var out []string
	for _, e := range l {
		s := step.Word(e.Kind)
		for _, p := range e.Picks {
			s += " " + strconv.Itoa(p)
		}
		out = append(out, s)
	}
	return strings.Join(out, "|")
}

func TestP2101Play(t *testing.T) {
	n := sample(t)
	q := name.Name{"Y", "org"}
	for _, c := range []struct {
		picks  []int
		server int
		end    int
		ok     bool
	}{
		{nil, 0, 0, false}, {[]int{0}, 2, step.Going, true}, {[]int{1}, 0, step.Going, true}, {[]int{2}, 0, 0, false}, {[]int{-1}, 0, 0, false},
		{[]int{0, 0}, 2, step.Refused, true}, {[]int{0, 1}, 0, 0, false}, {[]int{0, 0, 0}, 0, 0, false},
		{[]int{1, 0}, 1, step.Going, true}, {[]int{1, 1}, 2, step.Going, true}, {[]int{1, 2}, 0, step.Gone, true}, {[]int{1, 3}, 0, 0, false},
		{[]int{1, 0, 0}, 1, step.Missing, true}, {[]int{1, 1, 0}, 2, step.Lame, true}, {[]int{1, 1, 0, 0}, 0, 0, false},
	} {
		s, ok := Play(n, q, api.A, c.picks)
		if s.Server != c.server || s.End != c.end || ok != c.ok || !ok && len(s.Name) != 0 {
			t.Errorf("%v: %v, %v", c.picks, s, ok)
		}
	}
}

func TestP2101Explore(t *testing.T) {
	n := sample(t)
	for _, c := range []struct {
		q      string
		want   string
		states int
	}{
		{"x.", "found 1 0|refused 0 0", 4},
		{"X.org.", "found 1 0 0|refused 0 0|lame 1 1 0|gone 1 2", 8},
		{"loop.", "refused 0 0|loop 1 0 0 0", 6},
		{"nope.", "missing 1 0|refused 0 0", 4},
	} {
		q, _ := name.Parse(c.q, nil)
		l, states, e := Explore(n, q, api.A)
		if show(l) != c.want || states != c.states || e != api.OK {
			t.Errorf("%s: %s, %d, %v", c.q, show(l), states, e)
		}
	}
	twice := network(t, config, "root", "org NS x.\norg NS y.\norg NS b.\nx A 10.0.0.2\ny A 10.0.0.2\n", "org", "")
	twice.Roots = []int{1, 0, 0, 1}
	if l, states, e := Explore(twice, name.Name{"org"}, 1); show(l) != "empty 0 0" || states != 5 || e != api.OK {
		t.Error(show(l), states, e)
	}
	if l, states, e := Explore(net.Net{}, nil, 1); len(l) != 0 || states != 0 || e != api.OK {
		t.Error("no roots")
	}
}

func TestP2101Kinds(t *testing.T) {
	if k := Kinds([]End{{9, nil}, {1, []int{1}}, {4, nil}}); !slices.Equal(k, []int{1, 4, 9}) || len(Kinds(nil)) != 0 {
		t.Error(k)
	}
}

// TestP2101AgainstAllRuns takes every way by its picks, in the order that the chapter asks for.
func TestP2101AgainstAllRuns(t *testing.T) {
	r := rand.New(rand.NewSource(21))
	hosts := []string{"a.", "b.", "c.org.", "none."}
	for range 300 {
		var texts []string
		for i := range 3 {
			var text string
			for range r.Intn(6) {
				owner := []string{"org.", "a.org.", "b.org.", "*.org.", "."}[r.Intn(5)]
				switch r.Intn(4) {
				case 0:
					text += owner + " NS " + hosts[r.Intn(4)] + "\n"
				case 1:
					text += owner + " CNAME " + []string{"a.org.", "b.org.", "q.b.org.", "x."}[r.Intn(4)] + "\n"
				case 2:
					text += owner + " DNAME " + []string{"a.org.", "b.org.", "."}[r.Intn(3)] + "\n"
				case 3:
					text += owner + " A 10.0.0." + strconv.Itoa(1+r.Intn(3)) + "\n"
				}
			}
			texts = append(texts, strconv.Itoa(i), text)
		}
		n := network(t, "bound 2 2\nserver a. 10.0.0.1\nzone . 0\nserver b. 10.0.0.2\nzone org. 1\nserver c.org. 10.0.0.3\nzone a.org. 2\nroot a.\nroot b.\n", texts...)
		q := name.Name{[]string{"a", "b", "x"}[r.Intn(3)], "org"}
		firsts := map[int][]int{}
		var states []step.State
		ways := [][]int{{}}
		for len(ways) > 0 && len(ways) < 5000 {
			var longer [][]int
			for _, w := range ways {
				for p := 0; ; p++ {
					way := append(slices.Clone(w), p)
					s, ok := Play(n, q, api.A, way)
					if !ok {
						break
					}
					if !slices.ContainsFunc(states, func(o step.State) bool { return step.Same(o, s) }) {
						states = append(states, s)
					}
					if s.End == step.Going {
						longer = append(longer, way)
					} else if firsts[s.End] == nil {
						firsts[s.End] = way
					}
				}
			}
			ways = longer
		}
		if len(ways) > 0 {
			continue
		}
		l, count, e := Explore(n, q, api.A)
		if e != api.OK || count != len(states) || len(l) != len(firsts) {
			t.Fatalf("%q: %s, %d, %v; want %v, %d", texts, show(l), count, e, firsts, len(states))
		}
		for i, end := range l {
			if !slices.Equal(end.Picks, firsts[end.Kind]) || i > 0 && l[i-1].Kind >= end.Kind {
				t.Fatalf("%q: %s; want %v", texts, show(l), firsts)
			}
		}
	}
}

// TestP2102 goes through nets that lead on without an end of their own.
func TestP2102(t *testing.T) {
	n := network(t, config, "root", "@ NS a.\norg NS a.\n", "org", "@ NS b.\n")
	n.Rewrites, n.Referrals = 1<<62, 1<<62
	if l, count, e := Explore(n, name.Name{"org"}, 1); len(l) != 0 || count != 0 || e != api.ErrMany {
		t.Error(l, count, e)
	}
	n = network(t, config, "root", "loop DNAME loop.loop.\nl CNAME l\n", "org", "@ NS b.\n")
	n.Rewrites = -1
	Explore(n, name.Name{"l"}, 1)
	n.Rewrites = 1 << 62
	n.Roots = []int{-1, 5, 0, 0}
	Explore(n, name.Name{"l"}, 1)
	if l, _, e := Explore(n, name.Name{"x", "loop"}, 1); e != api.OK || show(l) != "toolong 2"+strings.Repeat(" 0", 50)+"|refused 0 0" {
		t.Error(show(l), e)
	}
}

func TestP2101BoundOfStates(t *testing.T) {
	n := network(t, "bound 0 16\nserver a. 10.0.0.1\nzone . root\nroot a.\n", "root", "org NS a.\n")
	for referrals, want := range map[int]api.Errno{4094: api.OK, 4095: api.ErrMany} {
		n.Referrals = referrals
		if l, count, e := Explore(n, name.Name{"org"}, 1); e != want || e == api.OK && (count != 4096 || show(l) != "far"+" 0"+strings.Repeat(" 0", 4095)) {
			t.Error(referrals, count, e)
		}
	}
}
