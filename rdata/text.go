package rdata

import (
	"strconv"
	"strings"

	"toponym/api"
	"toponym/name"
)

const digits = "0123456789abcdef"

// other is the word ahead of data that are told by their octets alone.
const other = `\#`

// Text tells data as words of a zone's text.
func Text(d Data) string {
	switch d.Type {
	case api.A:
		return dotted(d.Raw)
	case api.AAAA:
		return groups(d.Raw)
	case api.NS, api.CNAME, api.PTR, api.DNAME, api.SOA:
		return strings.Join(append(nameWords(d), numWords(d)...), " ")
	case api.MX:
		return strings.Join(append(numWords(d), nameWords(d)...), " ")
	case api.TXT:
		return strings.Join(textWords(d), " ")
	}
	return octetWords(d.Raw)
}

func nameWords(d Data) []string {
	var out []string
	for _, n := range d.Names {
		out = append(out, name.Text(n))
	}
	return out
}

func numWords(d Data) []string {
	var out []string
	for _, n := range d.Nums {
		out = append(out, strconv.FormatUint(uint64(n), 10))
	}
	return out
}

func textWords(d Data) []string {
	var out []string
	for _, s := range d.Texts {
		out = append(out, quoted(s))
	}
	return out
}

func quoted(s string) string {
	out := []byte{'"'}
	for i := range len(s) {
		c := s[i]
		switch {
		case c == '"' || c == '\\':
			out = append(out, '\\', c)
		case c < 0x20 || c > 0x7e:
			out = append(out, '\\', '0'+c/100, '0'+c/10%10, '0'+c%10)
		default:
			out = append(out, c)
		}
	}
	return string(append(out, '"'))
}

func dotted(raw []byte) string {
	var parts []string
	for _, c := range raw {
		parts = append(parts, strconv.Itoa(int(c)))
	}
	return strings.Join(parts, ".")
}

func groups(raw []byte) string {
	var parts []string
	for i := 0; i+1 < len(raw); i += 2 {
		group := uint64(raw[i])<<8 | uint64(raw[i+1])
		parts = append(parts, strconv.FormatUint(group, 16))
	}
	return strings.Join(parts, ":")
}

func octetWords(raw []byte) string {
	out := append([]byte(other), ' ')
	out = strconv.AppendInt(out, int64(len(raw)), 10)
	if len(raw) > 0 {
		out = append(out, ' ')
	}
	for _, c := range raw {
		out = append(out, digits[c>>4], digits[c&15])
	}
	return string(out)
}
