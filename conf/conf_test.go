package conf

import (
	"slices"
	"strconv"
	"strings"
	"testing"

	"toponym/api"
	"toponym/name"
)

func server(host string, last byte, zones ...Place) Server {
	return Server{Host: name.Name{host}, Addr: [4]byte{10, 0, 0, last}, Zones: zones}
}

func good() Config {
	return Config{
		Servers:   []Server{server("a", 1, Place{nil, "root"}, Place{name.Name{"Org"}, "b/\xff;"}), server("B", 2), server("c", 3, Place{name.Name{"x y", "z"}, "p"})},
		Roots:     []int{1, 0},
		Rewrites:  8,
		Referrals: 16,
	}
}

const goodText = "bound 8 16\nserver a. 10.0.0.1\nzone . root\nzone Org. b/\xff;\nserver B. 10.0.0.2\nserver c. 10.0.0.3\nzone x\\032y.z. p\nroot B.\nroot a.\n"

func TestP1501Check(t *testing.T) {
	many := Config{Roots: []int{0}}
	for i := range 16 {
		many.Servers = append(many.Servers, server(strconv.Itoa(i), byte(i)))
	}
	for i := range 16 {
		many.Servers[15].Zones = append(many.Servers[15].Zones, Place{name.Name{strconv.Itoa(i)}, "p"})
	}
	if at, e := Check(many); at != 0 || e != api.OK {
		t.Error(at, e)
	}
	long := strings.Repeat("x", 64)
	for i, c := range []struct {
		change func(c *Config)
		at     int
		e      api.Errno
	}{
		{func(c *Config) {}, 0, api.OK},
		{func(c *Config) { *c = Config{} }, 0, api.ErrEmpty},
		{func(c *Config) { c.Servers = nil; c.Rewrites = 9 }, 0, api.ErrEmpty},
		{func(c *Config) { c.Roots = nil; c.Servers[1].Host = name.Name{""} }, 0, api.ErrEmpty},
		{func(c *Config) { c.Servers = append(many.Servers[:16:16], server("z", 99)); c.Rewrites = 9 }, 0, api.ErrMany},
		{func(c *Config) { c.Rewrites = 9 }, 0, api.ErrArg},
		{func(c *Config) { c.Rewrites = -1 }, 0, api.ErrArg},
		{func(c *Config) { c.Referrals = 17 }, 0, api.ErrArg},
		{func(c *Config) { c.Referrals = -1 }, 0, api.ErrArg},
		{func(c *Config) { c.Rewrites, c.Referrals = 0, 0 }, 0, api.OK},
		{func(c *Config) { c.Roots = []int{3} }, 0, api.ErrArg},
		{func(c *Config) { c.Roots = []int{-1} }, 0, api.ErrArg},
		{func(c *Config) { c.Roots = []int{2, 1, 2}; c.Servers[0].Host = name.Name{""} }, 0, api.ErrTwice},
		{func(c *Config) { c.Servers[1].Host = name.Name{long} }, 1, api.ErrLong},
		{func(c *Config) { c.Servers[2].Host = name.Name{"b"} }, 2, api.ErrTwice},
		{func(c *Config) { c.Servers[2].Addr = c.Servers[0].Addr }, 2, api.ErrTwice},
		{func(c *Config) { c.Servers[2].Addr = c.Servers[0].Addr; c.Servers[1].Zones = []Place{{}} }, 1, api.ErrForm},
		{func(c *Config) { c.Servers[2].Zones = append(many.Servers[15].Zones[:16:16], Place{}) }, 2, api.ErrMany},
		{func(c *Config) { c.Servers[2].Zones[0].Origin = name.Name{"", long}; c.Servers[2].Zones[0].Path = "" }, 2, api.ErrEmpty},
		{func(c *Config) { c.Servers[0].Zones[0].Path = "" }, 0, api.ErrForm},
		{func(c *Config) { c.Servers[0].Zones[1].Path = "a b" }, 0, api.ErrForm},
		{func(c *Config) { c.Servers[2].Zones[0].Path = "a\n" }, 2, api.ErrForm},
		{func(c *Config) { c.Servers[2].Zones[0].Path = "\x00" }, 2, api.ErrForm},
		{func(c *Config) { c.Servers[2].Zones[0].Path = "!" }, 0, api.OK},
		{func(c *Config) { c.Servers[0].Zones = append(c.Servers[0].Zones, Place{name.Name{"ORG"}, "q"}) }, 0, api.ErrTwice},
		{func(c *Config) { c.Servers[0].Zones = append(c.Servers[0].Zones, Place{name.Name{"ORG"}, ""}) }, 0, api.ErrForm},
	} {
		x := good()
		c.change(&x)
		if at, e := Check(x); at != c.at || e != c.e {
			t.Errorf("%d: %d, %v; want %d, %v", i, at, e, c.at, c.e)
		}
	}
}

func TestP1501TextAndBack(t *testing.T) {
	if s := Text(good()); s != goodText {
		t.Errorf("%q", s)
	}
	c, line, e := Parse(goodText)
	if line != 0 || e != api.OK || Text(c) != goodText || !slices.Equal(c.Roots, []int{1, 0}) || c.Servers[0].Addr != [4]byte{10, 0, 0, 1} || c.Servers[0].Zones[1].Path != "b/\xff;" {
		t.Error(c, line, e)
	}
	c, _, e = Parse(strings.Replace(goodText, "root B.", "root b.", 1))
	if e != api.OK || Text(c) != goodText {
		t.Error("a root's letters", e)
	}
	bad := good()
	bad.Roots = []int{-1, 3}
	Text(bad)
}

func TestP1501ParseErrors(t *testing.T) {
	head := "bound 1 2\nserver a. 1.2.3.4\n"
	for s, want := range map[string]struct {
		line int
		e    api.Errno
	}{
		"":                                 {0, api.ErrForm},
		"\n":                               {0, api.ErrForm},
		"bound 1 2":                        {0, api.ErrForm},
		"bound 1 2\n":                      {1, api.ErrForm},
		"bound 1\n":                        {0, api.ErrForm},
		"bound 1 2 3\n":                    {0, api.ErrForm},
		"bound  1 2\n":                     {0, api.ErrForm},
		" bound 1 2\n":                     {0, api.ErrForm},
		"bound 1 2 \n":                     {0, api.ErrForm},
		"bound 1 2\r\n":                    {0, api.ErrForm},
		"bound 01 2\n":                     {0, api.ErrForm},
		"bound 1 -2\n":                     {0, api.ErrForm},
		"bound 1 2147483648\n" + head[10:]: {0, api.ErrForm},
		"bound 2147483647 0\n" + head[10:] + "root a.\n": {3, api.ErrArg},
		"Bound 1 2\n":                                                  {0, api.ErrForm},
		"server a. 1.2.3.4\n":                                          {0, api.ErrForm},
		"bound 1 2\nbound 1 2\n":                                       {1, api.ErrForm},
		"bound 1 2\nzone . p\n":                                        {1, api.ErrForm},
		"bound 1 2\nroot a.\n":                                         {1, api.ErrForm},
		"bound 1 2\nserver a 1.2.3.4\n":                                {1, api.ErrForm},
		"bound 1 2\nserver @ 1.2.3.4\n":                                {1, api.ErrForm},
		"bound 1 2\nserver \\a. 1.2.3.4\n":                             {1, api.ErrForm},
		"bound 1 2\nserver \\097. 1.2.3.4\n":                           {1, api.ErrForm},
		"bound 1 2\nserver a.. 1.2.3.4\n":                              {1, api.ErrForm},
		"bound 1 2\nserver " + strings.Repeat("x", 64) + ". 1.2.3.4\n": {1, api.ErrForm},
		"bound 1 2\nserver a. 1.2.3\n":                                 {1, api.ErrForm},
		"bound 1 2\nserver a. 1.2.3.4.5\n":                             {1, api.ErrForm},
		"bound 1 2\nserver a. 1.2.3.256\n":                             {1, api.ErrForm},
		"bound 1 2\nserver a. 1.2.3.04\n":                              {1, api.ErrForm},
		"bound 1 2\nserver a. 1.2.3.4 \n":                              {1, api.ErrForm},
		"bound 1 2\nserver a.\n":                                       {1, api.ErrForm},
		head:                                                           {2, api.ErrEmpty},
		head + "\n":                                                    {2, api.ErrForm},
		head + "zone . \n":                                             {2, api.ErrForm},
		head + "zone .\n":                                              {2, api.ErrForm},
		head + "zone . a\tb\n":                                         {2, api.ErrForm},
		head + "zone . a b\n":                                          {2, api.ErrForm},
		head + "zone org p\n":                                          {2, api.ErrForm},
		head + "zone Org. p\nzone oRG. q\n":                            {4, api.ErrEmpty},
		head + "zone Org. p\nzone oRG. q\nroot a.\n":                   {5, api.ErrTwice},
		head + "server A. 1.2.3.5\nroot a.\n":                          {4, api.ErrTwice},
		head + "root b.\nfoo\n":                                        {2, api.ErrName},
		head + "root b\n":                                              {2, api.ErrForm},
		head + "root a. x\n":                                           {2, api.ErrForm},
		head + "root a.":                                               {2, api.ErrForm},
		head + "root a.\nroot A.\n":                                    {4, api.ErrTwice},
		head + "root a.\nserver b. 1.1.1.1\n":                          {3, api.ErrForm},
		head + "root a.\nzone . p\n":                                   {3, api.ErrForm},
		head + "root a.\n\n":                                           {3, api.ErrForm},
		head + "foo\nroot b.\n":                                        {2, api.ErrForm},
	} {
		c, line, e := Parse(s)
		if line != want.line || e != want.e || len(c.Servers) != 0 || len(c.Roots) != 0 || c.Rewrites != 0 || c.Referrals != 0 {
			t.Errorf("%q: %d, %v; want %v", s, line, e, want)
		}
	}
}
