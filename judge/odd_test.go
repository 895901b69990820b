package judge

import (
	"math/rand"
	"reflect"
	"slices"
	"strings"
	"testing"

	"toponym/again"
	"toponym/alike"
	"toponym/api"
	"toponym/check"
	"toponym/class"
	"toponym/close"
	"toponym/conf"
	"toponym/edge"
	"toponym/find"
	"toponym/gen"
	"toponym/label"
	"toponym/load"
	"toponym/look"
	"toponym/name"
	"toponym/net"
	"toponym/print"
	"toponym/query"
	"toponym/rdata"
	"toponym/rec"
	"toponym/replay"
	"toponym/rset"
	"toponym/rtype"
	"toponym/run"
	"toponym/step"
	"toponym/text"
	"toponym/tok"
	"toponym/tree"
	"toponym/zone"
)

// odd makes plain data of all kinds, most of which no Check takes.
type odd struct{ *rand.Rand }

func (r odd) label() string {
	return []string{"a", "A", "b", "*", "", "org", "\x00", "x.y", "0", strings.Repeat("x", 63), strings.Repeat("y", 70)}[min(r.Intn(14), 10)]
}

func (r odd) name() name.Name {
	n := make(name.Name, 0, 8)
	for range r.Intn(4) {
		n = append(n, r.label())
	}
	return n
}

func (r odd) kind() int {
	return []int{1, 2, 2, 5, 5, 6, 12, 15, 16, 28, 39, 39, 39, -1, 0, 99, 65536}[r.Intn(17)]
}

func (r odd) data() rdata.Data {
	d := rdata.Data{Type: r.kind()}
	for range r.Intn(3) {
		d.Names = append(d.Names, r.name())
	}
	for range r.Intn(3) {
		d.Nums = append(d.Nums, r.Uint32())
	}
	for range r.Intn(3) {
		d.Texts = append(d.Texts, r.label())
	}
	for range []int{0, 4, r.Intn(7)}[r.Intn(3)] {
		d.Raw = append(d.Raw, byte(r.Intn(3)))
	}
	return d
}

func (r odd) recs() []rec.Rec {
	l := make([]rec.Rec, 0, 10)
	for range r.Intn(9) {
		l = append(l, rec.Rec{Owner: r.name(), TTL: uint32(r.Intn(3)), Data: r.data()})
	}
	return l
}

func (r odd) net() net.Net {
	n := net.Net{Rewrites: r.Intn(5) - 1, Referrals: r.Intn(5) - 1}
	for range r.Intn(4) {
		h := net.Host{Name: r.name(), Addr: [4]byte{0, 0, 0, byte(r.Intn(3))}}
		for range r.Intn(3) {
			h.Zones = append(h.Zones, zone.Zone{Origin: r.name()[:0], Recs: r.recs()})
		}
		for range r.Intn(2) {
			h.Zones = append(h.Zones, zone.New(r.name(), r.recs()))
		}
		n.Hosts = append(n.Hosts, h)
	}
	for range r.Intn(3) {
		n.Roots = append(n.Roots, r.Intn(5)-1)
	}
	return n
}

// lists tells where the lists in v lie, with their spare room.
func lists(v reflect.Value, out [][2]uintptr) [][2]uintptr {
	switch v.Kind() {
	case reflect.Pointer:
		if !v.IsNil() {
			out = lists(v.Elem(), out)
		}
	case reflect.Struct:
		for i := range v.NumField() {
			out = lists(v.Field(i), out)
		}
	case reflect.Array:
		for i := range v.Len() {
			out = lists(v.Index(i), out)
		}
	case reflect.Slice:
		if size := uintptr(v.Cap()) * v.Type().Elem().Size(); size > 0 {
			out = append(out, [2]uintptr{v.Pointer(), v.Pointer() + size})
		}
		for i := range v.Len() {
			out = lists(v.Index(i), out)
		}
	}
	return out
}

// deep is a text of all that v holds, its lists' spare room, too.
func deep(v reflect.Value, out *strings.Builder) {
	switch v.Kind() {
	case reflect.Pointer:
		deep(v.Elem(), out)
	case reflect.Struct:
		for i := range v.NumField() {
			deep(v.Field(i), out)
		}
	case reflect.Slice, reflect.Array:
		out.WriteByte('[')
		if v.Kind() == reflect.Slice {
			v = v.Slice(0, v.Cap())
		}
		for i := range v.Len() {
			deep(v.Index(i), out)
		}
		out.WriteByte(']')
	case reflect.String:
		out.WriteString(v.String() + "'")
	case reflect.Bool:
		out.WriteByte(map[bool]byte{false: 'f', true: 't'}[v.Bool()])
	default:
		if v.CanInt() {
			out.WriteString(string(rune(v.Int() + 5000)))
		} else {
			out.WriteString(string(rune(v.Uint() % 50000)))
		}
	}
}

// call calls f, and holds what it answers against P2.
func call(t *testing.T, what string, f any, args ...any) {
	t.Helper()
	fv := reflect.ValueOf(f)
	var in []reflect.Value
	var taken [][2]uintptr
	var before, after strings.Builder
	for i, a := range args {
		v := reflect.ValueOf(a)
		if a == nil {
			v = reflect.Zero(fv.Type().In(i))
		}
		in = append(in, v)
		taken = lists(v, taken)
		deep(v, &before)
	}
	var told [][2]uintptr
	for _, v := range fv.Call(in) {
		told = lists(v, told)
	}
	for _, v := range in {
		deep(v, &after)
	}
	if before.String() != after.String() {
		t.Errorf("%s changes what it is handed", what)
	}
	for i, a := range told {
		for _, b := range append(slices.Clone(taken), told[:i]...) {
			if a[0] < b[1] && b[0] < a[1] {
				t.Errorf("%s shares a list", what)
			}
		}
	}
}

func TestP1AndP2LowerLayers(t *testing.T) {
	r := odd{rand.New(rand.NewSource(1))}
	texts := []string{"", "@", ".", "a.b", "a..", "\\", "\\1", "\"", "(", "1-2", "$", "${", "${1,2,x}", "a\nb", "a b c", "IN", "TYPE1", "1.2.3.4"}
	for range 4000 {
		s := texts[r.Intn(len(texts))] + texts[r.Intn(len(texts))]
		k := r.Intn(200) - 50
		a, b, c := r.name(), r.name(), r.name()
		d, l, m := r.data(), r.recs(), r.recs()
		x := rec.Rec{Owner: a, TTL: r.Uint32(), Data: d}
		call(t, "label", func() (string, api.Errno) { return label.Parse(s) })
		call(t, "label.Split", label.Split, s)
		call(t, "name.Check", name.Check, a)
		call(t, "name.Text", name.Text, a)
		call(t, "name.Parse", name.Parse, s, a)
		call(t, "name.Parse", name.Parse, "@", a)
		call(t, "name.Fold", name.Fold, a)
		call(t, "name.Parent", name.Parent, a)
		call(t, "name.Child", name.Child, s, a)
		call(t, "name.Swap", name.Swap, a, b, c)
		call(t, "name.Swap", name.Swap, a, name.Name{}, c)
		call(t, "name.Common", name.Common, a, b)
		call(t, "name.Compare", name.Compare, a, b)
		call(t, "rtype.Parse", rtype.Parse, s)
		call(t, "rdata.Check", rdata.Check, d)
		call(t, "rdata.Text", rdata.Text, d)
		call(t, "rdata.Parse", rdata.Parse, d.Type, []rdata.Word{{Text: s}, {Text: "1", Quoted: k == 0}}, a)
		call(t, "rdata.Parse", rdata.Parse, d.Type, []rdata.Word{{Text: "@"}}, a)
		call(t, "rec.Check", rec.Check, x)
		call(t, "rec.Text", rec.Text, x)
		call(t, "rec.Canon", rec.Canon, l)
		call(t, "rec.SameRow", rec.SameRow, l, m)
		call(t, "rset.Sets", rset.Sets, l)
		call(t, "rset.Of", rset.Of, l, a, k)
		call(t, "rset.Types", rset.Types, l, a)
		call(t, "rset.Targets", rset.Targets, rset.Set{Owner: a, Type: d.Type, Data: []rdata.Data{d, r.data()}})
		call(t, "tok.Entries", tok.Entries, s+" "+s)
		call(t, "gen.Parse", gen.Parse, s)
		call(t, "gen.Numbers", gen.Numbers, gen.Range{From: k, To: k + r.Intn(9) - 2, Step: r.Intn(4) - 1})
		call(t, "gen.Put", gen.Put, s, k)
		call(t, "load.Load", load.Load, []load.File{{Path: "a", Text: "a 1 NS @\n NS @\n$INCLUDE b c\n@ NS x" + s}, {Path: "b", Text: s}}, "a", a)
		call(t, "print.Lines", print.Lines, l)
		call(t, "print.File", print.File, l, a)
		call(t, "print.Short", print.Short, a, b)
		call(t, "conf.Parse", conf.Parse, s)
		call(t, "conf.Text", conf.Text, conf.Config{Servers: []conf.Server{{Host: a, Zones: []conf.Place{{Origin: b, Path: s}}}}, Roots: []int{k}})
		call(t, "conf.Check", conf.Check, conf.Config{Servers: []conf.Server{{Host: a, Zones: []conf.Place{{Origin: b, Path: s}}}}, Roots: []int{0}})
	}
}

func TestP1AndP2Trees(t *testing.T) {
	r := odd{rand.New(rand.NewSource(2))}
	for range 500 {
		x := tree.New[int]()
		for range r.Intn(9) {
			call(t, "Put", x.Put, r.name(), 1)
		}
		n := r.name()
		call(t, "Get", x.Get, n)
		call(t, "Deepest", x.Deepest, n)
		call(t, "Kids", x.Kids, n)
		call(t, "Names", x.Names)
	}
}

func TestP1AndP2HigherLayers(t *testing.T) {
	r := odd{rand.New(rand.NewSource(3))}
	for range 1500 {
		n, o := r.net(), r.net()
		q, k := r.name(), r.kind()
		z := zone.Zone{Origin: r.name()[:0], Recs: r.recs()}
		if r.Intn(2) == 0 {
			z.Origin = r.name()
		}
		call(t, "zone.New", zone.New, z.Origin, z.Recs)
		call(t, "zone.Where", zone.Where, z, q)
		call(t, "zone.CutOf", zone.CutOf, z, q)
		call(t, "zone.Encloser", zone.Encloser, z, q)
		call(t, "zone.Source", zone.Source, z, q)
		call(t, "zone.Glue", zone.Glue, z, q)
		call(t, "check.Zone", check.Zone, z)
		call(t, "look.Zone", look.Zone, z, q, k)
		call(t, "net.Best", net.Best, n, r.Intn(5)-1, q)
		call(t, "net.Ask", net.Ask, n, r.Intn(5)-1, q, k)
		call(t, "net.Meant", net.Meant, n, q, []rdata.Data{r.data()})
		call(t, "edge.Cuts", edge.Cuts, z)
		call(t, "edge.Flaws", edge.Flaws, n)
		call(t, "close.Base", close.Base, n)
		call(t, "close.Renames", close.Renames, n)
		call(t, "close.Close", close.Close, n, r.Intn(100)-1)
		call(t, "class.All", class.All, n)
		l, _ := class.All(n)
		c := class.Class{Name: q, Other: r.Intn(2) == 0}
		call(t, "class.Of", class.Of, l, q)
		call(t, "class.Rep", class.Rep, l, c)
		call(t, "step.Start", step.Start, n, q)
		call(t, "step.Next", step.Next, n, step.State{Server: r.Intn(5) - 1, Name: q, Rewrites: r.Intn(3), Referrals: r.Intn(3)}, k)
		call(t, "run.Play", run.Play, n, q, k, []int{0, r.Intn(3) - 1, 0})
		call(t, "run.Explore", run.Explore, n, q, k)
		call(t, "alike.Rep", alike.Rep, n, q)
		call(t, "alike.Alike", alike.Alike, n, q, r.name(), k)
		call(t, "find.Flaws", find.Flaws, n)
		call(t, "replay.Right", replay.Right, n, find.Seen{Kind: 5, Name: q, Type: k, Picks: []int{0, 1}})
		call(t, "replay.Path", replay.Path, n, find.Seen{Kind: 5, Name: q, Type: k, Picks: []int{0, 1}})
		call(t, "query.Ask", query.Ask, n, q, k)
		call(t, "again.Files", again.Files, n)
		call(t, "again.Same", again.Same, n, o)
		call(t, "text.Lines", text.Lines, text.Report{Flaws: check.Zone(z), Edges: edge.Flaws(n)})
		if r.Intn(20) == 0 {
			call(t, "find.Runs", find.Runs, n)
			call(t, "query.Table", query.Table, n)
		}
	}
	call(t, "Net", Net, files("@ NS a\n", "@ NS b\n"), config)
	call(t, "Analyze", Analyze, files("@ NS a\nl CNAME l\n", "@ NS b\n"), config)
}
