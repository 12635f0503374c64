package fib_test

import (
	"math"
	"testing"

	"routescope/api"
	"routescope/fib"
)

// check compares the error of a table with the one that is required, and looks whether the arguments are as they were.
func check(t *testing.T, name string, l []api.Route, links []int, want api.Errno) {
	t.Helper()
	list, unchanged := roomy(l)
	room := spacious(links)
	if e := fib.Check(list, room); e != want {
		t.Errorf("%s: %d, want %d: %v by %v", name, e, want, l, links)
	}
	if !unchanged() || !untouched(room) {
		t.Errorf("%s: an argument was changed", name)
	}
}

// hosts returns n routes for single addresses.
func hosts(n int) []api.Route {
	l := make([]api.Route, n)
	for i := range l {
		l[i] = to(pre(10<<24+api.Address(i), 32), i%3)
	}
	return l
}

func TestCheckOfTables(t *testing.T) {
	check(t, "nothing", nil, nil, api.OK)
	check(t, "no routes", []api.Route{}, []int{1}, api.OK)
	check(t, "no next links", []api.Route{to(pre(0, 0))}, nil, api.OK)
	check(t, "the longest and the shortest prefix", []api.Route{to(pre(0, 0), 1), to(pre(0, 32), 2), to(pre(last, 32), 1, 2)}, []int{2, 1}, api.OK)
	number := numbers(1)
	links := make([]int, 3*len(tree()))
	for i := range links {
		links[i] = len(links) - 1 - i
	}
	for range 50 {
		if l := some(tree(), 20, number); len(l) <= api.MaxRoutes {
			check(t, "part of a tree", l, links, api.OK)
		}
	}
}

func TestCheckOfLimits(t *testing.T) {
	links := []int{0, 1, 2}
	check(t, "63 routes", hosts(63), links, api.OK)
	check(t, "64 routes", hosts(64), links, api.OK)
	check(t, "65 routes", hosts(65), links, api.ErrLimit)
	check(t, "300 routes", hosts(300), links, api.ErrLimit)
	check(t, "65 routes with all errors", make([]api.Route, 65), nil, api.ErrLimit)
	check(t, "64 routes with all errors but one", make([]api.Route, 64), nil, api.ErrRoute)
}

func TestCheckOfPrefixes(t *testing.T) {
	links := []int{1}
	for n := 0; n <= 32; n++ {
		check(t, "all ones", []api.Route{to(pre(last, n), 1)}, links, api.OK)
		check(t, "all zeros", []api.Route{to(pre(0, n), 1)}, links, api.OK)
		for bit := range 32 {
			want := api.OK
			if bit < 32-n {
				want = api.ErrAddress
			}
			p := api.Prefix{Address: pre(last, n).Address ^ 1<<bit, Len: n}
			check(t, "one bit changed", []api.Route{to(p, 1)}, links, want)
			check(t, "one bit", []api.Route{to(api.Prefix{Address: 1 << bit, Len: n}, 1)}, links, want)
		}
	}
	for _, n := range []int{math.MinInt, -1 << 32, -33, -32, -1, 33, 34, 64, 1 << 32, 1<<32 + 8, math.MaxInt} {
		check(t, "length", []api.Route{to(api.Prefix{Len: n}, 1)}, links, api.ErrAddress)
		check(t, "length", []api.Route{to(pre(0, 0), 1), to(api.Prefix{Address: last, Len: n}, 1)}, links, api.ErrAddress)
	}
}

func TestCheckOfOrder(t *testing.T) {
	list := tree()
	for i, p := range list {
		for _, j := range []int{0, i - 1, i, i + 1, len(list) - 1} {
			if j < 0 || j >= len(list) {
				continue
			}
			want := api.ErrOrder
			if i < j {
				want = api.OK
			}
			check(t, "two routes", []api.Route{to(p), to(list[j])}, nil, want)
			check(t, "two routes after one", []api.Route{to(pre(0, 0)), to(pre(0, 1)), to(p), to(list[j])}, nil, map[bool]api.Errno{true: want, false: api.ErrOrder}[less(pre(0, 1), p)])
		}
	}
	check(t, "other links do not make order", []api.Route{to(pre(10<<24, 8), 1), to(pre(10<<24, 8), 2)}, []int{1, 2}, api.ErrOrder)
	l := hosts(64)
	l[62], l[63] = l[63], l[62]
	check(t, "the last two", l, []int{0, 1, 2}, api.ErrOrder)
}

// row returns the numbers from 0 to n - 1.
func row(n int) []int {
	l := make([]int, n)
	for i := range l {
		l[i] = i
	}
	return l
}

func TestCheckOfNextLinks(t *testing.T) {
	links := []int{5, 1, 9, -3, 3, math.MaxInt, 7, math.MinInt}
	for _, x := range []struct {
		next []int
		want api.Errno
	}{
		{nil, api.OK}, {[]int{5}, api.OK}, {[]int{7}, api.OK}, {[]int{1, 3, 5, 7, 9}, api.OK}, {[]int{1, 9}, api.OK},
		{[]int{math.MinInt, -3, 1, math.MaxInt}, api.OK}, {[]int{math.MinInt, math.MaxInt}, api.OK},
		{[]int{2}, api.ErrRoute}, {[]int{0}, api.ErrRoute}, {[]int{-1}, api.ErrRoute}, {[]int{1 << 32}, api.ErrRoute}, {[]int{1<<32 + 5}, api.ErrRoute},
		{[]int{2, 5}, api.ErrRoute}, {[]int{5, 6}, api.ErrRoute}, {[]int{1, 4, 9}, api.ErrRoute},
		{[]int{5, 5}, api.ErrRoute}, {[]int{5, 1}, api.ErrRoute}, {[]int{1, 3, 3}, api.ErrRoute}, {[]int{1, 9, 5}, api.ErrRoute}, {[]int{3, 1, 9}, api.ErrRoute},
		{[]int{math.MaxInt, math.MinInt}, api.ErrRoute}, {[]int{1, -3}, api.ErrRoute},
	} {
		check(t, "next links", []api.Route{to(pre(10<<24, 8), x.next...)}, links, x.want)
		check(t, "next links of the second route", []api.Route{to(pre(10<<24, 8), 5), to(pre(10<<24, 9), x.next...)}, links, x.want)
	}
	check(t, "no links", []api.Route{to(pre(0, 0), 0)}, nil, api.ErrRoute)
	check(t, "a link twice", []api.Route{to(pre(0, 0), 4)}, []int{4, 4}, api.OK)
	for n := range 40 {
		want := api.OK
		if n > api.MaxNext {
			want = api.ErrRoute
		}
		check(t, "number of next links", []api.Route{to(pre(0, 0), row(n)...)}, row(40), want)
	}
}

func TestCheckOfBalance(t *testing.T) {
	for way := -10; way < 300; way++ {
		want := api.ErrRoute
		if way == 1 || way == 2 || way == 3 {
			want = api.OK
		}
		for _, next := range [][]int{nil, {1}, {1, 2}} {
			check(t, "balance", []api.Route{{Prefix: pre(0, 0), Next: next, Balance: way}}, []int{1, 2}, want)
		}
	}
	for _, way := range []int{math.MinInt, -1 << 32, 1<<32 + 1, 1<<32 + 3, math.MaxInt} {
		check(t, "balance", []api.Route{{Balance: way}}, nil, api.ErrRoute)
	}
}

// TestCheckOfSeveralErrors looks at routes with several errors, and at tables in which several routes have one.
func TestCheckOfSeveralErrors(t *testing.T) {
	links := []int{1}
	good := to(pre(10<<24, 8), 1)
	address := to(api.Prefix{Address: 20<<24 + 1, Len: 8}, 1)
	order := to(pre(9<<24, 8), 1)
	route := to(pre(30<<24, 8), 2)
	for _, x := range []struct {
		l    []api.Route
		want api.Errno
	}{
		{[]api.Route{good, to(api.Prefix{Address: 9<<24 + 1, Len: 8}, 2)}, api.ErrAddress},
		{[]api.Route{good, to(api.Prefix{Address: 9<<24 + 1, Len: 8}, 1)}, api.ErrAddress},
		{[]api.Route{good, to(api.Prefix{Address: 11<<24 + 1, Len: 8}, 2)}, api.ErrAddress},
		{[]api.Route{good, to(pre(9<<24, 8), 2)}, api.ErrOrder},
		{[]api.Route{good, {Prefix: good.Prefix}}, api.ErrOrder},
		{[]api.Route{good, address, order}, api.ErrAddress}, {[]api.Route{good, address, route}, api.ErrAddress},
		{[]api.Route{good, order, address}, api.ErrOrder}, {[]api.Route{good, order, route}, api.ErrOrder},
		{[]api.Route{good, route, address}, api.ErrRoute}, {[]api.Route{good, route, order}, api.ErrRoute},
		{[]api.Route{route, address}, api.ErrRoute}, {[]api.Route{address, route}, api.ErrAddress},
	} {
		check(t, "several errors", x.l, links, x.want)
	}
}
