package natural

import (
	"slices"
	"strconv"
	"strings"

	"routescope/api"
)

// Numbers are converted in groups of digits: the greatest power of ten that is less than base has nine zeros.
const (
	group      = 9
	groupValue = 1_000_000_000
)

// Text returns the decimal digits of n.
func Text(n api.Natural) string {
	if !Valid(n) {
		return ""
	}
	if len(n) == 0 {
		return "0"
	}
	var groups []string
	for rest := slices.Clone(n); len(rest) > 0; rest = trim(rest) {
		groups = append(groups, padded(shrink(rest, groupValue)))
	}
	slices.Reverse(groups)
	return strings.TrimLeft(strings.Join(groups, ""), "0")
}

// padded returns the digits of a group, with its leading zeros.
func padded(n int) string {
	s := strconv.Itoa(n)
	return strings.Repeat("0", group-len(s)) + s
}

// Parse returns the number with the text s, or api.ErrForm or api.ErrLimit.
func Parse(s string) (api.Natural, api.Errno) {
	if !isText(s) {
		return nil, api.ErrForm
	}
	if len(s) > api.MaxDigits {
		return nil, api.ErrLimit
	}
	var n api.Natural
	for len(s) > 0 {
		size := (len(s)-1)%group + 1
		value, _ := strconv.Atoi(s[:size]) // isText leaves no error
		n = scale(n, groupValue, value)
		s = s[size:]
	}
	return fit(n)
}

// isText reports whether s is digits without a leading zero, or "0".
func isText(s string) bool {
	if s == "" || s[0] == '0' && s != "0" {
		return false
	}
	for i := range len(s) {
		if s[i] < '0' || s[i] > '9' {
			return false
		}
	}
	return true
}
