// Package address is layer 1: IPv4 addresses, prefixes and ranges. See shared/doc/01-address.md.
package address

import (
	"cmp"
	"math/bits"

	"routescope/api"
)

// width is the number of bits of an address.
const width = 32

// special is the kind of the addresses of a prefix.
type special struct {
	prefix api.Prefix
	kind   int
}

// The prefixes are disjoint, so their order does not matter.
var specials = [...]special{
	{api.Prefix{Address: 0, Len: 8}, 1},
	{api.Prefix{Address: 127 << 24, Len: 8}, 2},
	{api.Prefix{Address: 10 << 24, Len: 8}, 3},
	{api.Prefix{Address: 172<<24 | 16<<16, Len: 12}, 3},
	{api.Prefix{Address: 192<<24 | 168<<16, Len: 16}, 3},
	{api.Prefix{Address: 169<<24 | 254<<16, Len: 16}, 4},
	{api.Prefix{Address: 224 << 24, Len: 4}, 5},
	{api.Prefix{Address: 240 << 24, Len: 4}, 6},
}

// after returns the bits of an address after the first n ones; n is from 0 to width.
func after(n int) api.Address {
	// A shift by all 32 bits gives 0, so the whole address needs no case of its own.
	return ^api.Address(0) >> n
}

// Valid reports whether a prefix is valid.
func Valid(p api.Prefix) bool {
	return p.Len >= 0 && p.Len <= width && p.Address&after(p.Len) == 0
}

// Bounds returns the least and the greatest address of a prefix, and api.ErrAddress if it is not valid.
func Bounds(p api.Prefix) (api.Range, api.Errno) {
	if !Valid(p) {
		return api.Range{}, api.ErrAddress
	}
	return api.Range{Low: p.Address, High: p.Address | after(p.Len)}, api.OK
}

// Contains reports whether a prefix is valid and contains an address.
func Contains(p api.Prefix, a api.Address) bool {
	return Valid(p) && a&^after(p.Len) == p.Address
}

// Covers reports whether two prefixes are valid and p contains all addresses of q.
func Covers(p, q api.Prefix) bool {
	return Valid(q) && p.Len <= q.Len && Contains(p, q.Address)
}

// Compare compares the addresses of two prefixes and then their lengths: -1, 0 or 1.
func Compare(p, q api.Prefix) int {
	if c := cmp.Compare(p.Address, q.Address); c != 0 {
		return c
	}
	return cmp.Compare(p.Len, q.Len)
}

// Common returns the longest prefix that contains two addresses.
func Common(a, b api.Address) api.Prefix {
	n := bits.LeadingZeros32(uint32(a ^ b))
	return api.Prefix{Address: a &^ after(n), Len: n}
}

// Halves returns the halves of a prefix, the lesser one first, and false if it has none.
func Halves(p api.Prefix) (api.Prefix, api.Prefix, bool) {
	if !Valid(p) || p.Len == width {
		return api.Prefix{}, api.Prefix{}, false
	}
	n := p.Len + 1
	middle := p.Address | after(p.Len)&^after(n)
	return api.Prefix{Address: p.Address, Len: n}, api.Prefix{Address: middle, Len: n}, true
}

// Cover returns the shortest list of prefixes that contains exactly the addresses of a range, ascending.
func Cover(r api.Range) []api.Prefix {
	var list []api.Prefix
	// The address after a range may be 2^32, which an address cannot hold.
	next, end := uint64(r.Low), uint64(r.High)+1
	for next < end {
		free := largest(next, end-next)
		list = append(list, api.Prefix{Address: api.Address(next), Len: width - free})
		next += 1 << free
	}
	return list
}

// largest returns the number of free bits of the largest prefix that begins at an address and has at most count addresses; count is from 1 to 2^32.
func largest(first, count uint64) int {
	return min(width, bits.TrailingZeros64(first), bits.Len64(count)-1)
}

// Special returns the kind of an address, and 0 if it is an ordinary one.
func Special(a api.Address) int {
	for _, s := range specials {
		if Contains(s.prefix, a) {
			return s.kind
		}
	}
	return 0
}

// Mate returns the other end of a point-to-point subnet of 31 or 30 bits.
func Mate(a api.Address, len int) (api.Address, api.Errno) {
	switch len {
	case 31:
		return a ^ 1, api.OK
	case 30:
		if low := a & 3; low == 0 || low == 3 {
			return 0, api.ErrAddress
		}
		return a ^ 3, api.OK
	}
	return 0, api.ErrRange
}
