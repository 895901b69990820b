package conf

import (
	"iter"
	"slices"
	"strings"

	"toponym/api"
	"toponym/name"
	"toponym/number"
	"toponym/rdata"
)

const mostBound = 1<<31 - 1

// Parse reads what Text tells, and nothing else; with an error it tells the line.
func Parse(s string) (Config, int, api.Errno) {
	var p parser
	count := 0
	for line := range lines(s) {
		if e := p.take(line); e != api.OK {
			return Config{}, count, e
		}
		count++
	}
	if len(p.c.Servers) == 0 {
		return Config{}, count, api.ErrForm
	}
	if _, e := Check(p.c); e != api.OK {
		return Config{}, count, e
	}
	return p.c, 0, api.OK
}

// lines goes over a text's lines, each with its end: the last one may lack it.
func lines(s string) iter.Seq[string] {
	return func(yield func(string) bool) {
		for rest := s; rest != ""; {
			size := strings.IndexByte(rest, '\n') + 1
			if size == 0 {
				size = len(rest)
			}
			if !yield(rest[:size]) {
				return
			}
			rest = rest[size:]
		}
	}
}

// parser is what the lines so far have told.
type parser struct {
	c     Config
	bound bool
}

func (p *parser) take(line string) api.Errno {
	line, ended := strings.CutSuffix(line, "\n")
	if !ended {
		return api.ErrForm
	}
	words := strings.Split(line, " ")
	switch {
	case !p.bound:
		return p.takeBound(words)
	case words[0] == "server" && len(p.c.Roots) == 0:
		return p.takeServer(words)
	case words[0] == "zone" && len(p.c.Roots) == 0:
		return p.takeZone(words)
	case words[0] == "root":
		return p.takeRoot(words)
	}
	return api.ErrForm
}

func (p *parser) takeBound(words []string) api.Errno {
	if len(words) != 3 || words[0] != "bound" {
		return api.ErrForm
	}
	rewrites, e := number.Parse(words[1], mostBound)
	if e != api.OK {
		return api.ErrForm
	}
	referrals, e := number.Parse(words[2], mostBound)
	if e != api.OK {
		return api.ErrForm
	}
	p.c.Rewrites, p.c.Referrals, p.bound = rewrites, referrals, true
	return api.OK
}

func (p *parser) takeServer(words []string) api.Errno {
	if len(words) != 3 {
		return api.ErrForm
	}
	host, ok := readName(words[1])
	if !ok {
		return api.ErrForm
	}
	addr, ok := readAddress(words[2])
	if !ok {
		return api.ErrForm
	}
	p.c.Servers = append(p.c.Servers, Server{Host: host, Addr: addr})
	return api.OK
}

func (p *parser) takeZone(words []string) api.Errno {
	if len(words) != 3 || len(p.c.Servers) == 0 || !isPath(words[2]) {
		return api.ErrForm
	}
	origin, ok := readName(words[1])
	if !ok {
		return api.ErrForm
	}
	last := &p.c.Servers[len(p.c.Servers)-1]
	last.Zones = append(last.Zones, Place{Origin: origin, Path: words[2]})
	return api.OK
}

func (p *parser) takeRoot(words []string) api.Errno {
	if len(words) != 2 || len(p.c.Servers) == 0 {
		return api.ErrForm
	}
	host, ok := readName(words[1])
	if !ok {
		return api.ErrForm
	}
	at := slices.IndexFunc(p.c.Servers, func(s Server) bool { return name.Same(s.Host, host) })
	if at < 0 {
		return api.ErrName
	}
	p.c.Roots = append(p.c.Roots, at)
	return api.OK
}

// readName reads a name that is written as name.Text tells it.
func readName(s string) (name.Name, bool) {
	n, e := name.Parse(s, nil)
	if e != api.OK || name.Text(n) != s {
		return nil, false
	}
	return n, true
}

func readAddress(s string) ([4]byte, bool) {
	d, e := rdata.Parse(api.A, []rdata.Word{{Text: s}}, nil)
	if e != api.OK {
		return [4]byte{}, false
	}
	var out [4]byte
	copy(out[:], d.Raw)
	return out, true
}
