package address_test

import (
	"fmt"
	"regexp"
	"strings"
	"testing"

	"routescope/address"
	"routescope/api"
)

// P1.1

func TestTextOfAddress(t *testing.T) {
	for _, place := range []int{0, 1, 2, 3} {
		for n := range 256 {
			b := [4]int{9, 80, 0, 255}
			b[place] = n
			a := api.Address(b[0])<<24 | api.Address(b[1])<<16 | api.Address(b[2])<<8 | api.Address(b[3])
			s := fmt.Sprintf("%d.%d.%d.%d", b[0], b[1], b[2], b[3])
			if got := address.Format(a); got != s {
				t.Errorf("the text of %d is %q, not %q", a, got, s)
			}
			if got, e := address.Parse(s); e != api.OK || got != a {
				t.Errorf("%q is %d, %d", s, got, e)
			}
		}
	}
	for _, a := range somewhere {
		if got, e := address.Parse(address.Format(a)); e != api.OK || got != a {
			t.Errorf("%d comes back as %d, %d", a, got, e)
		}
	}
}

// words returns all texts of at most n of some letters.
func words(letters []string, n int) []string {
	list := []string{""}
	for from := 0; n > 0; n-- {
		to := len(list)
		for _, w := range list[from:to] {
			for _, l := range letters {
				list = append(list, w+l)
			}
		}
		from = to
	}
	return list
}

func TestTextsOfNumbers(t *testing.T) {
	proper := regexp.MustCompile(`^(0|[1-9][0-9]?|1[0-9][0-9]|2[0-4][0-9]|25[0-5])$`)
	letters := []string{"0", "1", "2", "5", "6", "9", "+", "-", " ", "x", "_", ".", "/", ":", "\x00", "٣"}
	for _, w := range words(letters, 3) {
		for _, s := range []string{w + ".2.3.4", "1." + w + ".3.4", "1.2.3." + w} {
			a, e := address.Parse(s)
			if proper.MatchString(w) {
				if e != api.OK || address.Format(a) != s {
					t.Errorf("%q is %d, %d", s, a, e)
				}
			} else if e != api.ErrForm || a != 0 {
				t.Errorf("%q is %d, %d", s, a, e)
			}
		}
	}
}

func TestTextsOfNoAddress(t *testing.T) {
	digits := strings.Repeat("9", 1000)
	for _, s := range []string{
		"", ".", "...", "....", "1", "1.2", "1.2.3", "1.2.3.", ".1.2.3", "1.2.3.4.", ".1.2.3.4", "1.2.3.4.5", "1.2..3.4", "1..3.4",
		"256.0.0.0", "0.256.0.0", "0.0.256.0", "0.0.0.256", "999.0.0.0", "1.2.3.1000", "1.2.3.4294967297", "1.2.3.18446744073709551617", "1.2.3." + digits, digits,
		"00.2.3.4", "01.2.3.4", "1.2.3.04", "1.2.3.00", "1.2.3.0000000004", "1.2.3.0x4", "1.2.3.1e1", "1.2.3.1_0",
		" 1.2.3.4", "1.2.3.4 ", "1.2.3.4\n", "1.2. 3.4", "+1.2.3.4", "1.2.3.-4", "1.2.3.-0", "1,2,3,4", "1.2.3.4/32", "a.b.c.d", "::1", "１.2.3.4", "1.2.3.4\x00", "\xff.2.3.4",
	} {
		if a, e := address.Parse(s); e != api.ErrForm || a != 0 {
			t.Errorf("%q is %d, %d", s, a, e)
		}
	}
}

func TestTextOfPrefix(t *testing.T) {
	for _, p := range prefixes() {
		s := fmt.Sprintf("%s/%d", address.Format(p.Address), p.Len)
		got, e := address.ParsePrefix(s)
		text := address.FormatPrefix(p)
		if !aligned(p) {
			if e != api.ErrForm || got != (api.Prefix{}) || text != "" {
				t.Errorf("%q is %v, %d; its text is %q", s, got, e, text)
			}
		} else if e != api.OK || got != p || text != s {
			t.Errorf("%q is %v, %d; its text is %q", s, got, e, text)
		}
	}
}

func TestTextsOfLengths(t *testing.T) {
	proper := regexp.MustCompile(`^([0-9]|[12][0-9]|3[0-2])$`)
	letters := []string{"0", "1", "2", "3", "8", "9", "+", "-", " ", "x", ".", "/", "\x00", "٣"}
	for _, w := range words(letters, 3) {
		s := "0.0.0.0/" + w
		p, e := address.ParsePrefix(s)
		if proper.MatchString(w) {
			if e != api.OK || p.Address != 0 || fmt.Sprint(p.Len) != w {
				t.Errorf("%q is %v, %d", s, p, e)
			}
		} else if e != api.ErrForm || p != (api.Prefix{}) {
			t.Errorf("%q is %v, %d", s, p, e)
		}
	}
}

func TestTextsOfNoPrefix(t *testing.T) {
	for _, s := range []string{
		"", "/", "//", "/8", "10.0.0.0", "10.0.0.0/", "10.0.0.0/8/", "10.0.0.0//8", "/10.0.0.0/8", "10.0.0.0/8/8",
		"10.0.0.0/33", "10.0.0.0/08", "10.0.0.0/-1", "10.0.0.0/+8", "10.0.0.0/ 8", " 10.0.0.0/8", "10.0.0.0/8 ", "10.0.0.0 /8", "10.0.0.0/4294967304", "10.0.0.0/18446744073709551624", "10.0.0.0/" + strings.Repeat("0", 1000),
		"10.0.0/8", "10.0.0.0.0/8", "010.0.0.0/8", "256.0.0.0/8", "10.0.0.0\\8", "8/10.0.0.0",
		"10.0.0.1/8", "10.0.0.1/31", "10.0.0.2/30", "128.0.0.0/0", "255.255.255.255/31",
	} {
		if p, e := address.ParsePrefix(s); e != api.ErrForm || p != (api.Prefix{}) {
			t.Errorf("%q is %v, %d", s, p, e)
		}
	}
}
