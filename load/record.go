package load

import (
	"slices"

	"toponym/api"
	"toponym/name"
	"toponym/number"
	"toponym/rdata"
	"toponym/rec"
	"toponym/rtype"
	"toponym/tok"
)

func (x *loader) readRecord(entry tok.Entry, s *scope) api.Errno {
	words := entry.Words
	if entry.Blank {
		if !s.hasOwner {
			return api.ErrEmpty
		}
	} else {
		if e := setOwner(words[0], s); e != api.OK {
			return e
		}
		words = words[1:]
	}
	words, own, e := readAhead(words)
	if e != api.OK {
		return e
	}
	return x.add(words, own, s)
}

func setOwner(w rdata.Word, s *scope) api.Errno {
	if w.Quoted {
		return api.ErrForm
	}
	n, e := name.Parse(w.Text, s.origin)
	if e != api.OK {
		return e
	}
	s.owner, s.hasOwner = n, true
	return api.OK
}

// readAhead reads the TTL and the class that may stand ahead of the type, and tells the words behind them.
func readAhead(words []rdata.Word) ([]rdata.Word, ttl, api.Errno) {
	var own ttl
	class := false
	for len(words) > 0 && !words[0].Quoted {
		w := words[0].Text
		switch {
		case number.Digits(w) && !own.set:
			n, e := number.Parse(w, api.MaxTTL)
			if e != api.OK {
				return nil, ttl{}, e
			}
			own = ttl{uint32(n), true}
		case isClass(w) && !class:
			class = true
		default:
			return words, own, api.OK
		}
		words = words[1:]
	}
	return words, own, api.OK
}

func isClass(w string) bool {
	return w == "IN" || w == "In" || w == "iN" || w == "in"
}

// add adds the record of the scope's owner whose type and data the words tell.
func (x *loader) add(words []rdata.Word, own ttl, s *scope) api.Errno {
	if len(words) == 0 {
		return api.ErrEmpty
	}
	if words[0].Quoted {
		return api.ErrForm
	}
	t, e := rtype.Parse(words[0].Text)
	if e != api.OK {
		return e
	}
	d, e := rdata.Parse(t, words[1:], s.origin)
	if e != api.OK {
		return e
	}
	if !own.set {
		own = s.ttl
	}
	if !own.set {
		own = s.last
	}
	if !own.set {
		return api.ErrEmpty
	}
	if len(x.recs) >= api.MaxRecs {
		return api.ErrMany
	}
	s.last = own
	x.recs = append(x.recs, rec.Rec{Owner: slices.Clone(s.owner), TTL: own.value, Data: d})
	return api.OK
}
