package load

import (
	"slices"
	"strings"

	"toponym/api"
	"toponym/gen"
	"toponym/name"
	"toponym/number"
	"toponym/rdata"
	"toponym/tok"
)

func isDirective(entry tok.Entry) bool {
	first := entry.Words[0]
	return !entry.Blank && !first.Quoted && strings.HasPrefix(first.Text, "$")
}

// plain tells whether no word is quoted.
func plain(words []rdata.Word) bool {
	for _, w := range words {
		if w.Quoted {
			return false
		}
	}
	return true
}

func setOrigin(args []rdata.Word, s *scope) api.Errno {
	if len(args) != 1 || !plain(args) {
		return api.ErrForm
	}
	n, e := name.Parse(args[0].Text, s.origin)
	if e != api.OK {
		return e
	}
	s.origin = n
	return api.OK
}

func setTTL(args []rdata.Word, s *scope) api.Errno {
	if len(args) != 1 || !plain(args) {
		return api.ErrForm
	}
	n, e := number.Parse(args[0].Text, api.MaxTTL)
	if e != api.OK {
		return e
	}
	s.ttl = ttl{uint32(n), true}
	return api.OK
}

// include reads another file in a scope of its own: what that file changes of it ends with it.
func (x *loader) include(entry tok.Entry, s scope) *Fault {
	args := entry.Words[1:]
	if len(args) < 1 || len(args) > 2 || !plain(args[1:]) {
		return x.at(entry, api.ErrForm)
	}
	if len(args) == 2 {
		if e := setOrigin(args[1:], &s); e != api.OK {
			return x.at(entry, e)
		}
	}
	path := args[0].Text
	x.includes++
	if e := x.mayInclude(path); e != api.OK {
		return x.at(entry, e)
	}
	return x.read(path, s)
}

func (x *loader) mayInclude(path string) api.Errno {
	_, ok := Find(x.files, path)
	switch {
	case !ok:
		return api.ErrName
	case slices.Contains(x.reading, path):
		return api.ErrCycle
	case len(x.reading) > api.MaxInclude:
		return api.ErrDeep
	case x.includes > api.MaxFiles:
		return api.ErrMany
	}
	return api.OK
}

// generate adds a record of each number of a range.
func (x *loader) generate(args []rdata.Word, s *scope) api.Errno {
	if len(args) < 3 || !plain(args[:3]) {
		return api.ErrForm
	}
	r, e := gen.Parse(args[0].Text)
	if e != api.OK {
		return e
	}
	nums, e := gen.Numbers(r)
	if e != api.OK {
		return e
	}
	for _, n := range nums {
		words, e := putAll(args[1:], n)
		if e != api.OK {
			return e
		}
		if e := setOwner(words[0], s); e != api.OK {
			return e
		}
		if e := x.add(words[1:], ttl{}, s); e != api.OK {
			return e
		}
	}
	return api.OK
}

func putAll(words []rdata.Word, n int) ([]rdata.Word, api.Errno) {
	var out []rdata.Word
	for _, w := range words {
		text, e := gen.Put(w.Text, n)
		if e != api.OK {
			return nil, e
		}
		out = append(out, rdata.Word{Text: text, Quoted: w.Quoted})
	}
	return out, api.OK
}
