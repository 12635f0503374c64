package fib_test

import (
	"math"
	"slices"
	"testing"

	"routescope/api"
)

const last = api.Address(math.MaxUint32)

// ways holds all ways to choose one of several links.
var ways = []int{api.PerFlow, api.PerDestination, api.PerPacket}

// pre returns the prefix with the first n bits of a; unlike the package it never masks an address.
func pre(a api.Address, n int) api.Prefix {
	size := uint64(1)
	for range 32 - n {
		size *= 2
	}
	return api.Prefix{Address: api.Address(uint64(a) / size * size), Len: n}
}

// less reports whether p comes before q: by the address, then by the length.
func less(p, q api.Prefix) bool {
	return p.Address < q.Address || p.Address == q.Address && p.Len < q.Len
}

// holds reports whether a valid prefix contains an address, by its count of addresses.
func holds(p api.Prefix, a api.Address) bool {
	return pre(a, p.Len) == p
}

// to returns a route by links.
func to(p api.Prefix, next ...int) api.Route {
	return api.Route{Prefix: p, Next: next, Balance: api.PerFlow}
}

// equal reports whether two routes are.
func equal(x, y api.Route) bool {
	return x.Prefix == y.Prefix && x.Balance == y.Balance && slices.Equal(x.Next, y.Next)
}

// expect compares a table with the one that is required.
func expect(t *testing.T, name string, got, want []api.Route) {
	t.Helper()
	if !slices.EqualFunc(got, want, equal) {
		t.Errorf("%s: got %v, want %v", name, got, want)
	}
}

// copied returns a table with memory of its own.
func copied(l []api.Route) []api.Route {
	out := make([]api.Route, len(l))
	for i, r := range l {
		out[i] = r
		out[i].Next = append([]int{}, r.Next...)
	}
	return out
}

// roomy returns a table in which all slices have spare capacity, and a function that says whether that is still as it was.
func roomy(l []api.Route) ([]api.Route, func() bool) {
	spare := to(pre(7<<24, 8), 70, 71)
	list := make([]api.Route, len(l), len(l)+3)
	for i, r := range l {
		list[i] = r
		list[i].Next = spacious(r.Next)
	}
	for i := range list[len(l):cap(list)] {
		list[:cap(list)][len(l)+i] = spare
	}
	return list, func() bool {
		for _, r := range list[len(l):cap(list)] {
			if !equal(r, spare) {
				return false
			}
		}
		return slices.EqualFunc(list, l, equal) && !slices.ContainsFunc(list, func(r api.Route) bool { return !untouched(r.Next) })
	}
}

// spacious returns a list of links with spare capacity that holds 99.
func spacious(next []int) []int {
	n := make([]int, len(next), len(next)+4)
	copy(n, next)
	for i := len(n); i < cap(n); i++ {
		n[:cap(n)][i] = 99
	}
	return n
}

// untouched reports whether the spare capacity of a list from spacious is as it was.
func untouched(next []int) bool {
	for _, x := range next[len(next):cap(next)] {
		if x != 99 {
			return false
		}
	}
	return true
}

// spoil changes all memory of a table that can be reached, spare capacity too.
func spoil(l []api.Route) {
	l = l[:cap(l)]
	for i := range l {
		spoilRoute(&l[i])
	}
}

// spoilRoute changes all memory of a route that can be reached.
func spoilRoute(r *api.Route) {
	r.Prefix, r.Balance = pre(last, 32), -5
	r.Next = r.Next[:cap(r.Next)]
	for i := range r.Next {
		r.Next[i] = -77
	}
}

// numbers yields the numbers of a fixed sequence below n, to choose test inputs by.
func numbers(seed uint64) func(n int) int {
	x := seed
	return func(n int) int {
		x = x*6364136223846793005 + 1442695040888963407
		return int(x>>33) % n
	}
}

// tree returns all valid prefixes of a few bits below one address, ascending, with the whole space and single addresses.
func tree() []api.Prefix {
	list := []api.Prefix{{}, pre(last, 32), pre(0, 32), pre(0, 1), pre(1<<31, 1), pre(last, 1), pre(10<<24, 31), pre(10<<24, 30)}
	for n := 5; n <= 11; n++ {
		for i := range 1 << (n - 5) {
			list = append(list, pre(8<<24|api.Address(i<<(32-n)), n))
		}
	}
	slices.SortFunc(list, func(p, q api.Prefix) int {
		switch {
		case less(p, q):
			return -1
		case less(q, p):
			return 1
		}
		return 0
	})
	return slices.Compact(list)
}

// some returns a table with about count of the prefixes, each with links of its own.
func some(list []api.Prefix, count int, number func(int) int) []api.Route {
	var l []api.Route
	for i, p := range list {
		if number(len(list)) < count {
			next := []int{3 * i, 3*i + 1, 3*i + 2}[:number(4)]
			l = append(l, api.Route{Prefix: p, Next: next, Balance: ways[number(3)]})
		}
	}
	return l
}
