package address

import (
	"strconv"
	"strings"

	"routescope/api"
)

// parts is the number of bytes of an address.
const parts = 4

// Parse returns the address with a text, and api.ErrForm if there is none.
func Parse(s string) (api.Address, api.Errno) {
	var a api.Address
	rest := s
	for i := range parts {
		text, tail, dot := strings.Cut(rest, ".")
		n, ok := number(text, 255)
		if !ok || dot != (i < parts-1) {
			return 0, api.ErrForm
		}
		a = a<<8 | api.Address(n)
		rest = tail
	}
	return a, api.OK
}

// Format returns the text of an address.
func Format(a api.Address) string {
	s := strconv.Itoa(int(a >> 24))
	for shift := 16; shift >= 0; shift -= 8 {
		s += "." + strconv.Itoa(int(a>>shift&255))
	}
	return s
}

// ParsePrefix returns the valid prefix with a text, and api.ErrForm if there is none.
func ParsePrefix(s string) (api.Prefix, api.Errno) {
	first, last, slash := strings.Cut(s, "/")
	a, e := Parse(first)
	n, ok := number(last, width)
	p := api.Prefix{Address: a, Len: n}
	if !slash || e != api.OK || !ok || !Valid(p) {
		return api.Prefix{}, api.ErrForm
	}
	return p, api.OK
}

// FormatPrefix returns the text of a valid prefix, and the empty string for others.
func FormatPrefix(p api.Prefix) string {
	if !Valid(p) {
		return ""
	}
	return Format(p.Address) + "/" + strconv.Itoa(p.Len)
}

// number returns the number from 0 to most with a decimal text. It reads by hand because strconv also takes signs and leading zeros.
func number(s string, most int) (int, bool) {
	if s == "" || len(s) > 1 && s[0] == '0' {
		return 0, false
	}
	n := 0
	for i := range len(s) {
		if s[i] < '0' || s[i] > '9' {
			return 0, false
		}
		n = n*10 + int(s[i]-'0')
		// Leaving here keeps a long text from overflowing.
		if n > most {
			return 0, false
		}
	}
	return n, true
}
