package load

import (
	"math/rand"
	"strconv"
	"strings"
	"testing"

	"toponym/api"
	"toponym/name"
	"toponym/rdata"
	"toponym/rec"
)

var org = name.Name{"Org"}

// try loads path f of files given as path, text, path, text .. and tells the records, or the fault.
func try(files ...string) string {
	var l []File
	for i := 0; i+1 < len(files); i += 2 {
		l = append(l, File{files[i], files[i+1]})
	}
	rs, f := Load(l, "f", org)
	if f != nil {
		if len(rs) != 0 {
			return "records beside a fault"
		}
		return f.Error()
	}
	var out []string
	for _, r := range rs {
		out = append(out, rec.Text(r))
	}
	return strings.Join(out, "|")
}

func expect(t *testing.T, want string, files ...string) {
	t.Helper()
	if s := try(files...); s != want {
		t.Errorf("%q: %s; want %s", files, s, want)
	}
}

func TestP901Find(t *testing.T) {
	l := []File{{"a", "1"}, {"b", "2"}, {"a", "3"}}
	if s, ok := Find(l, "a"); s != "1" || !ok {
		t.Error(s, ok)
	}
	if s, ok := Find(l, "c"); s != "" || ok {
		t.Error(s, ok)
	}
	f := &Fault{"p", 3, api.ErrDeep}
	var err error = f
	if err.Error() != "p:3: deep" {
		t.Error(err)
	}
	expect(t, "f:0: name")
	expect(t, "f:2: form", "f", "$FOO\n\"x\n")
	expect(t, "", "f", "")
}

func TestP901Record(t *testing.T) {
	for text, want := range map[string]string{
		"a 1 IN A 1.2.3.4":                                "a.Org. 1 IN A 1.2.3.4",
		"a IN 1 A 1.2.3.4":                                "a.Org. 1 IN A 1.2.3.4",
		"a iN 1 a 1.2.3.4":                                "a.Org. 1 IN A 1.2.3.4",
		"@ 0 NS @":                                        "Org. 0 IN NS Org.",
		". 5 MX 1 x":                                      ". 5 IN MX 1 x.Org.",
		"a 2147483647 A 1.2.3.4":                          "a.Org. 2147483647 IN A 1.2.3.4",
		"a 1 A 1.2.3.4\n A 1.2.3.5\nb NS c":               "a.Org. 1 IN A 1.2.3.4|a.Org. 1 IN A 1.2.3.5|b.Org. 1 IN NS c.Org.",
		"a 1 A 1.2.3.4\n 7 A 1.2.3.5\n IN A 1.2.3.6":      "a.Org. 1 IN A 1.2.3.4|a.Org. 7 IN A 1.2.3.5|a.Org. 7 IN A 1.2.3.6",
		"$TTL 9\na A 1.2.3.4\nb 1 A 1.2.3.4\nc A 1.2.3.4": "a.Org. 9 IN A 1.2.3.4|b.Org. 1 IN A 1.2.3.4|c.Org. 9 IN A 1.2.3.4",
		"a 1 TXT \"x;\" y\n in 2 TXT in":                  "a.Org. 1 IN TXT \"x;\" \"y\"|a.Org. 2 IN TXT \"in\"",
		"in 1 in TXT in":                                  "in.Org. 1 IN TXT \"in\"",
		"1 1 TXT 1":                                       "1.Org. 1 IN TXT \"1\"",
		"a 1 TYPE99 \\# 1 0f":                             "a.Org. 1 IN TYPE99 \\# 1 0f",
		"\\$ORIGIN 1 A 1.2.3.4":                           "\\$ORIGIN.Org. 1 IN A 1.2.3.4",
		"a ( 1\n A ; x\n1.2.3.4 )":                        "a.Org. 1 IN A 1.2.3.4",
		"a 1 A 1.2.3.4\n ( A\n1.2.3.5)":                   "a.Org. 1 IN A 1.2.3.4|a.Org. 1 IN A 1.2.3.5",
	} {
		expect(t, want, "f", text)
	}
}

func TestP901RecordErrors(t *testing.T) {
	for text, want := range map[string]string{
		"a..b 1 A 1.2.3.4":       "f:1: empty",
		"\"a\" 1 A 1.2.3.4":      "f:1: form",
		" 1 A 1.2.3.4":           "f:1: empty",
		" $TTL 1":                "f:1: empty",
		"a":                      "f:1: empty",
		"a 1":                    "f:1: empty",
		"a 1 IN":                 "f:1: empty",
		"a 01 A x":               "f:1: form",
		"a 2147483648 A x":       "f:1: over",
		"a 1 2 A 1.2.3.4":        "f:1: type",
		"a IN IN A 1.2.3.4":      "f:1: type",
		"a CH 1 A 1.2.3.4":       "f:1: type",
		"a TYPE0":                "f:1: over",
		"a \"1\" A 1.2.3.4":      "f:1: form",
		"a \"IN\" A 1.2.3.4":     "f:1: form",
		"a 1 \"A\" 1.2.3.4":      "f:1: form",
		"a A 1.2.3":              "f:1: form",
		"a A 256.2.3.4":          "f:1: over",
		"a A 1.2.3.4":            "f:1: empty",
		"\n\n;\n(\na 1 A x)":     "f:5: form",
		"a 1 A 1.2.3.4\nb B":     "f:2: type",
		"a 1 A 1.2.3.4\n $TTL 5": "f:2: type",
		"\"$TTL\" 1":             "f:1: form",
	} {
		expect(t, want, "f", text)
	}
}

func TestP901Many(t *testing.T) {
	text := "$TTL 1\n$GENERATE 1-4096 h$ A 1.2.3.4\n"
	if s := try("f", text); strings.Count(s, "|") != 4095 {
		t.Error(len(s))
	}
	expect(t, "f:3: many", "f", text+"a A 1.2.3.4")
	expect(t, "f:3: form", "f", text+"a A 1.2.3")
	expect(t, "f:2: many", "f", "$TTL 1\n$GENERATE 0-4096 h$ A 1.2.3.4\n")
	expect(t, "f:3: many", "f", "$TTL 1\na A 1.2.3.4\n$GENERATE 1-4096 h$ A 1.2.3.4\n")
}

func TestP901OriginAndTTL(t *testing.T) {
	expect(t, "a.b.Org. 1 IN NS b.Org.|c. 1 IN NS x.", "f", "$ORIGIN b\na 1 NS @\n$ORIGIN x.\nc. NS @")
	expect(t, ". 2147483647 IN NS a.", "f", "$TTL 2147483647\n$ORIGIN .\n@ NS a")
	for text, want := range map[string]string{
		"$ORIGIN":           "f:1: form",
		"$ORIGIN a b":       "f:1: form",
		"$ORIGIN \"a\"":     "f:1: form",
		"$ORIGIN a..b":      "f:1: empty",
		"$TTL":              "f:1: form",
		"$TTL \"1\"":        "f:1: form",
		"$TTL 01":           "f:1: form",
		"$TTL 1h":           "f:1: form",
		"$TTL 2147483648":   "f:1: over",
		"$origin a":         "f:1: name",
		"$":                 "f:1: name",
		"$FOO \"x\"":        "f:1: name",
		"a 1 NS b\n$TTL -1": "f:2: form",
	} {
		expect(t, want, "f", text)
	}
}

func TestP901Include(t *testing.T) {
	expect(t, "a.Org. 1 IN NS x.Org.|b.in.Org. 1 IN NS y.|a.Org. 1 IN NS z.Org.", "f", "a 1 NS x\n$INCLUDE g in\n NS z", "g", "b NS y.\n$ORIGIN q.\n$TTL 7")
	expect(t, "a.Org. 1 IN NS x.Org.|a.Org. 1 IN NS y.Org.|b.Org. 5 IN NS y.Org.|a.Org. 1 IN NS z.Org.", "f", "a 1 NS x\n$INCLUDE \"g\"\n NS z", "g", " NS y\nb 5 NS y")
	expect(t, "a.Org. 3 IN NS y.Org.", "f", "$TTL 3\n$INCLUDE g", "g", "a NS y")
	expect(t, "f:3: empty", "f", "$INCLUDE g\n\n NS z", "g", "a 1 NS y")
	expect(t, "f:2: empty", "f", "$INCLUDE g\na NS z", "g", "a 1 NS y\n$TTL 5")
	expect(t, "g:2: type", "f", "$INCLUDE g", "g", "\na 1 FOO")
	expect(t, "g:1: form", "f", "$INCLUDE g", "g", ")")
	expect(t, "a.Org. 1 IN NS b.Org.|a.Org. 1 IN NS b.Org.", "f", "$INCLUDE g\n$INCLUDE g", "g", "a 1 NS b")
	for text, want := range map[string]string{
		"$INCLUDE":         "f:1: form",
		"$INCLUDE g a b":   "f:1: form",
		"$INCLUDE g \"a\"": "f:1: form",
		"\n$INCLUDE h":     "f:2: name",
		"$INCLUDE h a..b":  "f:1: empty",
		"$INCLUDE f":       "f:1: cycle",
		"$INCLUDE g":       "g:2: cycle",
	} {
		expect(t, want, "f", text, "g", ";\n$INCLUDE f")
	}
}

func TestP901IncludeLimits(t *testing.T) {
	chain := func(depth int) []string {
		files := []string{"f", "$INCLUDE 1"}
		for i := 1; i < depth; i++ {
			files = append(files, strconv.Itoa(i), "$INCLUDE "+strconv.Itoa(i+1))
		}
		return append(files, strconv.Itoa(depth), "a 1 NS b")
	}
	expect(t, "a.Org. 1 IN NS b.Org.", chain(8)...)
	expect(t, "8:1: deep", chain(9)...)
	expect(t, "8:1: cycle", append([]string{"8", "$INCLUDE 3"}, chain(8)...)...)
	expect(t, "8:1: name", append([]string{"8", "$INCLUDE x"}, chain(8)...)...)
	expect(t, "", "f", strings.Repeat("$INCLUDE g\n", 64), "g", "")
	expect(t, "f:65: many", "f", strings.Repeat("$INCLUDE g\n", 65), "g", "")
	expect(t, "g:1: many", "f", "$INCLUDE h\n"+strings.Repeat("$INCLUDE g\n", 32), "g", "$INCLUDE h", "h", "")
	expect(t, "f:65: name", "f", strings.Repeat("$INCLUDE g\n", 64)+"$INCLUDE h", "g", "")
}

func TestP901Generate(t *testing.T) {
	expect(t, "h1.Org. 5 IN A 10.0.0.1|h3.Org. 5 IN A 10.0.0.3|h3.Org. 5 IN NS x.Org.", "f", "$TTL 5\n$GENERATE 1-4/2 h$ A 10.0.0.$\n NS x")
	expect(t, "a.Org. 7 IN NS x.Org.|Org. 7 IN TXT \"0a$\" \"b\"", "f", "a 7 NS x\n$GENERATE 10-10 @ TXT \"${0,2,x}$$\" b")
	expect(t, "a.Org. 7 IN NS x.Org.|x.Org. 7 IN TYPE10 \\# 1 0a", "f", "a 7 NS x\n$GENERATE 10-10 x TYPE$ \\# 1 ${0,2,x}")
	for text, want := range map[string]string{
		"$GENERATE":                             "f:1: form",
		"$GENERATE 1-2 a":                       "f:1: form",
		"$GENERATE \"1-2\" a A 1.2.3.4":         "f:1: form",
		"$GENERATE 1-2 \"a\" A 1.2.3.4":         "f:1: form",
		"$GENERATE 1-2 a \"A\" 1.2.3.4":         "f:1: form",
		"$GENERATE 2-1 a A 1.2.3.4":             "f:1: arg",
		"$GENERATE x a A 1.2.3.4":               "f:1: form",
		"$GENERATE 1-99999999999 a A 1.2.3.4":   "f:1: over",
		"$GENERATE 1-9999 ${ A 1.2.3.4":         "f:1: many",
		"$GENERATE 1-2 ${ A 1.2.3.4":            "f:1: form",
		"$GENERATE 1-2 a A ${-2}.2.3.4":         "f:1: over",
		"$GENERATE 1-2 a..b A 1.2.3.4":          "f:1: empty",
		"$GENERATE 1-2 a A 1.2.3.4":             "f:1: empty",
		"$TTL 1\n$GENERATE 1-2 a 5 A 1.2.3.4":   "f:2: type",
		"$TTL 1\n$GENERATE 1-2 a IN A 1.2.3.4":  "f:2: type",
		"$TTL 1\n$GENERATE 255-256 a A 1.2.3.$": "f:2: over",
		"$TTL 1\n$GENERATE 1-2 a..$ A 1.2.3.4":  "f:2: empty",
		"$TTL 1\n$GENERATE 1-2 a A":             "f:2: form",
	} {
		expect(t, want, "f", text)
	}
}

// TestP902 loads records of all kinds as rec.Text tells them.
func TestP902(t *testing.T) {
	r := rand.New(rand.NewSource(9))
	label := func() string {
		b := make([]byte, 1+r.Intn(5))
		for i := range b {
			b[i] = byte(r.Intn(256))
		}
		return string(b)
	}
	someName := func() name.Name {
		var n name.Name
		for range r.Intn(4) {
			n = append(n, label())
		}
		return n
	}
	for range 2000 {
		var l []rec.Rec
		var lines []string
		for range 1 + r.Intn(6) {
			d := rdata.Data{Type: []int{1, 2, 5, 6, 12, 15, 16, 28, 39, 3, 65535}[r.Intn(11)]}
			switch d.Type {
			case 1, 28:
				d.Raw = make([]byte, map[int]int{1: 4, 28: 16}[d.Type])
				r.Read(d.Raw)
			case 2, 5, 12, 39:
				d.Names = []name.Name{someName()}
			case 15:
				d.Names, d.Nums = []name.Name{someName()}, []uint32{uint32(r.Intn(65536))}
			case 6:
				d.Names, d.Nums = []name.Name{someName(), someName()}, []uint32{r.Uint32(), r.Uint32(), 0, 1, 4294967295}
			case 16:
				for range 1 + r.Intn(3) {
					d.Texts = append(d.Texts, label()[1:]+label())
				}
			default:
				d.Raw = []byte(label())[1:]
			}
			x := rec.Rec{Owner: someName(), TTL: uint32(r.Intn(api.MaxTTL)), Data: d}
			if e := rec.Check(x); e != api.OK {
				t.Fatal(e)
			}
			l = append(l, x)
			lines = append(lines, rec.Text(x))
		}
		got, f := Load([]File{{"f", strings.Join(lines, "\n")}}, "f", name.Name{"other"})
		if f != nil || !rec.SameRow(got, l) {
			t.Fatalf("%q: %v", lines, f)
		}
	}
}

func TestP2NothingIsShared(t *testing.T) {
	o := name.Name{"o"}
	l, f := Load([]File{{"f", "@ 1 NS @\n NS @"}}, "f", o)
	if f != nil {
		t.Fatal(f)
	}
	l[0].Owner[0] = "x"
	l[0].Data.Names[0][0] = "y"
	if o[0] != "o" || l[1].Owner[0] != "o" || l[1].Data.Names[0][0] != "o" {
		t.Error("shared")
	}
}
