package rdata

import (
	"math"
	"strings"

	"toponym/api"
	"toponym/label"
	"toponym/name"
	"toponym/number"
	"toponym/rtype"
)

// What a word of data is, each a letter of what form answers.
const (
	isName    = 'n'
	isNumber  = 'u'
	isPref    = 'p'
	isText    = 't'
	isAddress = '4'
	isGroups  = '6'
)

// Parse reads the words of data of type t.
func Parse(t int, l []Word, origin name.Name) (Data, api.Errno) {
	if t < 1 || t > mostType {
		return Data{}, api.ErrType
	}
	d := Data{Type: t}
	var e api.Errno
	if len(l) > 0 && l[0].Text == other && !l[0].Quoted {
		d.Raw, e = readOctets(t, l[1:])
	} else {
		e = readWords(&d, l, origin)
	}
	if e != api.OK {
		return Data{}, e
	}
	return d, api.OK
}

// form tells what each of so many words of a type is; empty: the type has no such words.
func form(t, words int) string {
	switch t {
	case api.A:
		return string(isAddress)
	case api.AAAA:
		return string(isGroups)
	case api.NS, api.CNAME, api.PTR, api.DNAME:
		return string(isName)
	case api.MX:
		return string(isPref) + string(isName)
	case api.SOA:
		return strings.Repeat(string(isName), 2) + strings.Repeat(string(isNumber), 5)
	case api.TXT:
		if words <= mostTexts {
			return strings.Repeat(string(isText), words)
		}
	}
	return ""
}

func readWords(d *Data, l []Word, origin name.Name) api.Errno {
	kinds := form(d.Type, len(l))
	if kinds == "" || len(kinds) != len(l) {
		return api.ErrForm
	}
	for i, w := range l {
		if w.Quoted && kinds[i] != isText {
			return api.ErrForm
		}
		if e := readWord(d, kinds[i], w.Text, origin); e != api.OK {
			return e
		}
	}
	return api.OK
}

// readWord adds what one word says to d.
func readWord(d *Data, kind byte, s string, origin name.Name) api.Errno {
	var e api.Errno
	switch kind {
	case isName:
		var n name.Name
		n, e = name.Parse(s, origin)
		d.Names = append(d.Names, n)
	case isNumber, isPref:
		most := math.MaxUint32
		if kind == isPref {
			most = mostPref
		}
		var n int
		n, e = number.Parse(s, most)
		d.Nums = append(d.Nums, uint32(n))
	case isText:
		var text string
		text, e = readText(s)
		d.Texts = append(d.Texts, text)
	case isAddress:
		d.Raw, e = readAddress(s)
	case isGroups:
		d.Raw, e = readGroups(s)
	}
	return e
}

func readAddress(s string) ([]byte, api.Errno) {
	parts := strings.Split(s, ".")
	if len(parts) != 4 {
		return nil, api.ErrForm
	}
	var out []byte
	for _, p := range parts {
		n, e := number.Parse(p, 255)
		if e != api.OK {
			return nil, e
		}
		out = append(out, byte(n))
	}
	return out, api.OK
}

func readGroups(s string) ([]byte, api.Errno) {
	parts := strings.Split(s, ":")
	if len(parts) != 8 {
		return nil, api.ErrForm
	}
	var out []byte
	for _, p := range parts {
		if len(p) < 1 || len(p) > 4 {
			return nil, api.ErrForm
		}
		group := 0
		for i := range len(p) {
			v, ok := digitOf(p[i])
			if !ok {
				return nil, api.ErrForm
			}
			group = group<<4 | v
		}
		out = append(out, byte(group>>8), byte(group))
	}
	return out, api.OK
}

// readText reads a text's escapes, each as that of a label: so a label's bounds and dots do not hold for it.
func readText(s string) (string, api.Errno) {
	var out []byte
	for i := 0; i < len(s); {
		if s[i] != '\\' {
			out = append(out, s[i])
			i++
			continue
		}
		size := 2
		if i+1 < len(s) && '0' <= s[i+1] && s[i+1] <= '9' {
			size = 4
		}
		end := min(i+size, len(s))
		c, e := label.Parse(s[i:end])
		if e != api.OK {
			return "", e
		}
		out = append(out, c...)
		i = end
	}
	if len(out) > mostText {
		return "", api.ErrLong
	}
	return string(out), api.OK
}

// readOctets reads the words behind the one that stands for others.
func readOctets(t int, l []Word) ([]byte, api.Errno) {
	address := t == api.A || t == api.AAAA
	if rtype.Known(t) && !address {
		return nil, api.ErrType
	}
	if len(l) == 0 || l[0].Quoted {
		return nil, api.ErrForm
	}
	count, e := number.Parse(l[0].Text, math.MaxUint32)
	if e != api.OK {
		return nil, e
	}
	if count > api.MaxData {
		return nil, api.ErrLong
	}
	halves, ok := readHalves(l[1:])
	if !ok || len(halves) != 2*count {
		return nil, api.ErrForm
	}
	out := make([]byte, 0, count)
	for i := range count {
		out = append(out, halves[2*i]<<4|halves[2*i+1])
	}
	if address && !counted(Data{Type: t, Raw: out}) {
		return nil, api.ErrForm
	}
	return out, api.OK
}

func readHalves(l []Word) ([]byte, bool) {
	var out []byte
	for _, w := range l {
		if w.Quoted {
			return nil, false
		}
		for i := range len(w.Text) {
			v, ok := digitOf(w.Text[i])
			if !ok {
				return nil, false
			}
			out = append(out, byte(v))
		}
	}
	return out, true
}

func digitOf(c byte) (int, bool) {
	switch {
	case '0' <= c && c <= '9':
		return int(c - '0'), true
	case 'a' <= c && c <= 'f':
		return int(c-'a') + 10, true
	case 'A' <= c && c <= 'F':
		return int(c-'A') + 10, true
	}
	return 0, false
}
