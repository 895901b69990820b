package tok

import (
	"strconv"
	"strings"
	"testing"

	"toponym/api"
)

func show(l []Entry) string {
	var out []string
	for _, e := range l {
		s := strconv.Itoa(e.Line)
		if e.Blank {
			s += "_"
		}
		for _, w := range e.Words {
			if w.Quoted {
				s += " <" + w.Text + ">"
			} else {
				s += " [" + w.Text + "]"
			}
		}
		out = append(out, s)
	}
	return strings.Join(out, " | ")
}

func TestP701Entries(t *testing.T) {
	for s, want := range map[string]string{
		"":                             "",
		"\n\n":                         "",
		"a b\tc":                       "1 [a] [b] [c]",
		"a\r\nb\r\n":                   "1 [a] | 2 [b]",
		"a\r":                          "1 [a\r]",
		"a\rb\r\r\n":                   "1 [a\rb\r]",
		" a\n\tb\nc\n":                 "1_ [a] | 2_ [b] | 3 [c]",
		"; x\n  ; \"\\\n\na;b(\n":      "4 [a]",
		"\"a b;()\" c\n":               "1 <a b;()> [c]",
		"\"\"\n":                       "1 <>",
		"a\"b\"c\n":                    "1 [a] <b> [c]",
		"\"a\"\"b\"":                   "1 <a> <b>",
		"\"a\\\"b\"":                   "1 <a\\\"b>",
		"a\\ b\\;\\\"\\(\\\\ c":        "1 [a\\ b\\;\\\"\\(\\\\] [c]",
		"a\\\r":                        "1 [a\\\r]",
		"a(b)c":                        "1 [a] [b] [c]",
		"a (\nb ; x )\n\n c\n) d\ne\n": "1 [a] [b] [c] [d] | 6 [e]",
		"(\n a )\nb":                   "2 [a] | 3 [b]",
		" (\na )\nb":                   "2_ [a] | 3 [b]",
		"(\n ( a ) )":                  "2 [a]",
		" ()\n b\n()\nc":               "2_ [b] | 4 [c]",
		"(\n) a\n":                     "2 [a]",
		"((((((((a))))))))":            "1 [a]",
		"\x00\xff \"\x01\"":            "1 [\x00\xff] <\x01>",
		"( )\n a":                      "2_ [a]",
	} {
		l, line, e := Entries(s)
		if show(l) != want || line != 0 || e != api.OK {
			t.Errorf("%q: %s, %d, %v; want %s", s, show(l), line, e, want)
		}
	}
}

func TestP701Errors(t *testing.T) {
	for s, want := range map[string]struct {
		line int
		e    api.Errno
	}{
		"a\n\"b":                       {2, api.ErrForm},
		"\"a\r\nb\"":                   {1, api.ErrForm},
		"\"a\\\"":                      {1, api.ErrForm},
		"a\\":                          {1, api.ErrForm},
		"a\\\r\n":                      {1, api.ErrForm},
		"\n\"a\\\n\"":                  {2, api.ErrForm},
		"a )":                          {1, api.ErrForm},
		"(a)\n)":                       {2, api.ErrForm},
		"a (b)\n(c\n(d)\n":             {2, api.ErrForm},
		"\n(a\n(b":                     {2, api.ErrForm},
		"(((((((((":                    {1, api.ErrDeep},
		"((((\n((((a\n(b)))))))))":     {3, api.ErrDeep},
		"(a ; )\n":                     {1, api.ErrForm},
		"(\n)) \"":                     {2, api.ErrForm},
		"(\n\n\"x":                     {3, api.ErrForm},
		strings.Repeat("(", 20) + "\"": {1, api.ErrDeep},
	} {
		l, line, e := Entries(s)
		if len(l) != 0 || line != want.line || e != want.e {
			t.Errorf("%q: %s, %d, %v; want %v", s, show(l), line, e, want)
		}
	}
}
