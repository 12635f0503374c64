package fib_test

import (
	"math"
	"slices"
	"testing"

	"routescope/api"
	"routescope/fib"
)

// longest returns the route for an address by looking at all of them.
func longest(l []api.Route, a api.Address) (api.Route, bool) {
	var best api.Route
	found := false
	for _, r := range l {
		if holds(r.Prefix, a) && (!found || r.Prefix.Len > best.Prefix.Len) {
			best, found = r, true
		}
	}
	return best, found
}

// edges returns the first and last address of each prefix, and their neighbours.
func edges(list []api.Prefix) []api.Address {
	var as []api.Address
	for _, p := range list {
		end := p.Address
		for b := range 32 - p.Len {
			end |= 1 << b
		}
		as = append(as, p.Address-1, p.Address, p.Address+1, end-1, end, end+1)
	}
	slices.Sort(as)
	return slices.Compact(as)
}

// look compares the route for an address with the one that is required.
func look(t *testing.T, l []api.Route, a api.Address) {
	t.Helper()
	got, ok := fib.Lookup(l, a)
	want, found := longest(l, a)
	if ok != found || !equal(got, want) {
		t.Errorf("Lookup of %x: %v, %t, want %v, %t in %v", a, got, ok, want, found, l)
	}
}

func TestLookupExample(t *testing.T) {
	l := []api.Route{to(pre(10<<24, 8), 1), to(pre(10<<24|1<<16, 16), 2)}
	for a, want := range map[api.Address]int{10<<24 | 1<<16 | 2<<8 | 3: 1, 10<<24 | 2<<16: 0} {
		if r, ok := fib.Lookup(l, a); !ok || !equal(r, l[want]) {
			t.Errorf("%x: %v, %t", a, r, ok)
		}
	}
}

func TestLookup(t *testing.T) {
	list := tree()
	as := edges(list)
	number := numbers(2)
	for _, count := range []int{0, 1, 2, 5, 20, 60, len(list)} {
		for range 5 {
			l := some(list, count, number)
			for _, a := range as {
				look(t, l, a)
			}
		}
	}
}

// TestLookupOfNested looks up addresses in prefixes of all lengths that contain each other, with and without single ones.
func TestLookupOfNested(t *testing.T) {
	for _, a := range []api.Address{0, 1, 10<<24 | 5, 1<<31 - 1, 1 << 31, 0xAAAAAAAA, last - 1, last} {
		var all []api.Route
		for n := 0; n <= 32; n++ {
			all = append(all, to(pre(a, n), n))
		}
		for n := -1; n <= 32; n++ {
			l := copied(all)
			if n >= 0 {
				l = slices.Delete(l, n, n+1)
			}
			look(t, l, a)
			look(t, l[len(l)-1:], a)
			for bit := range 32 {
				look(t, l, a^1<<bit)
				look(t, l[n/2+1:], a^1<<bit)
			}
		}
	}
}

func TestLookupOfNothing(t *testing.T) {
	for _, l := range [][]api.Route{nil, {}, {to(pre(10<<24, 8), 1)}, {to(pre(0, 32), 1)}, {to(pre(last, 32), 1)}} {
		for _, a := range []api.Address{1, 9<<24 | 0xFFFFFF, 11 << 24, last - 1} {
			if r, ok := fib.Lookup(l, a); ok || r.Prefix != (api.Prefix{}) || r.Balance != 0 || len(r.Next) != 0 {
				t.Errorf("%x in %v: %v, %t", a, l, r, ok)
			}
		}
	}
}

func TestLookupOfRouteWithoutNextLinks(t *testing.T) {
	l := []api.Route{to(pre(10<<24, 8), 1), {Prefix: pre(10<<24|1<<16, 16), Balance: api.PerPacket}}
	if r, ok := fib.Lookup(l, 10<<24|1<<16|9); !ok || !equal(r, l[1]) {
		t.Errorf("%v, %t", r, ok)
	}
}

func TestLookupHasItsOwnMemory(t *testing.T) {
	number := numbers(3)
	before := some(tree(), 60, number)
	for _, a := range edges(tree()) {
		l, unchanged := roomy(before)
		r, _ := fib.Lookup(l, a)
		other, _ := fib.Lookup(l, a)
		kept := copied([]api.Route{other})[0]
		spoilRoute(&r)
		if !unchanged() || !equal(other, kept) {
			t.Fatalf("%x: a route shares memory", a)
		}
	}
}

// put returns what Put requires, by looking at all routes.
func put(l []api.Route, r api.Route) []api.Route {
	var out []api.Route
	done := false
	for _, x := range l {
		if !done && !less(x.Prefix, r.Prefix) {
			out, done = append(out, r), true
		}
		if x.Prefix != r.Prefix {
			out = append(out, x)
		}
	}
	if !done {
		out = append(out, r)
	}
	return out
}

// without returns what Remove requires, by looking at all routes.
func without(l []api.Route, p api.Prefix) []api.Route {
	var out []api.Route
	for _, x := range l {
		if x.Prefix != p {
			out = append(out, x)
		}
	}
	return out
}

// samples returns routes to be put into tables: with prefixes of the tree, in and out of them, and with any balance and next links.
func samples() []api.Route {
	var l []api.Route
	for i, p := range append(tree(), pre(8<<24, 4), pre(8<<24, 12), pre(8<<24, 32), pre(15<<24, 32), pre(last, 31)) {
		l = append(l, api.Route{Prefix: p, Next: [][]int{nil, {1000}, {1001, 1002}, {5, 5, -4}}[i%4], Balance: i%5 - 1})
	}
	return l
}

func TestPutAndRemove(t *testing.T) {
	number := numbers(4)
	for _, count := range []int{0, 1, 2, 10, 40, 200} {
		before := some(tree(), count, number)
		for _, r := range samples() {
			l, unchanged := roomy(before)
			r.Next = spacious(r.Next)
			expect(t, "Put", fib.Put(l, r), put(before, r))
			expect(t, "Remove", fib.Remove(l, r.Prefix), without(before, r.Prefix))
			if !unchanged() || !untouched(r.Next) {
				t.Fatal("an argument was changed")
			}
		}
	}
}

func TestPutIntoNothing(t *testing.T) {
	for _, r := range samples() {
		expect(t, "Put", fib.Put(nil, r), []api.Route{r})
		expect(t, "Remove", fib.Remove(nil, r.Prefix), nil)
		expect(t, "Remove", fib.Remove([]api.Route{r}, r.Prefix), nil)
		expect(t, "Put", fib.Put([]api.Route{{Prefix: r.Prefix, Next: []int{3, 4, 5}, Balance: 9}}, r), []api.Route{r})
	}
}

// TestPutOfManyRoutes looks whether a table may have more routes than Check allows: a table is checked after it was changed.
func TestPutOfManyRoutes(t *testing.T) {
	l := hosts(64)
	more := fib.Put(l, to(pre(0, 0), 1))
	expect(t, "Put", more, put(l, to(pre(0, 0), 1)))
	if e := fib.Check(more, row(3)); e != api.ErrLimit {
		t.Errorf("Check: %d", e)
	}
	expect(t, "Remove", fib.Remove(more, pre(0, 0)), l)
}

// TestPutOfNoPrefix puts a route whose prefix is not valid, and looks whether Check finds it where it belongs.
func TestPutOfNoPrefix(t *testing.T) {
	l := []api.Route{to(pre(10<<24, 8), 1), to(pre(11<<24, 8), 1)}
	for _, p := range []api.Prefix{{Address: 10<<24 + 1, Len: 8}, {Address: 10 << 24, Len: 33}, {Address: 10 << 24, Len: math.MaxInt}, {Address: 11 << 24, Len: -1}, {Address: 11 << 24, Len: math.MinInt}} {
		got := fib.Put(l, to(p, 1))
		expect(t, "Put", got, []api.Route{l[0], to(p, 1), l[1]})
		if e := fib.Check(got, []int{1}); e != api.ErrAddress {
			t.Errorf("Check after Put of %v: %d", p, e)
		}
		expect(t, "Remove", fib.Remove(got, p), l)
	}
}

func TestPutAndRemoveHaveTheirOwnMemory(t *testing.T) {
	number := numbers(5)
	before := some(tree(), 60, number)
	for _, r := range samples() {
		l, unchanged := roomy(before)
		r.Next = spacious(r.Next)
		kept := copied([]api.Route{r})[0]
		first, second := fib.Put(l, r), fib.Put(l, r)
		spoil(first)
		expect(t, "another Put", second, put(before, kept))
		smaller := fib.Remove(second, r.Prefix)
		spoil(second)
		expect(t, "Remove of what was put", smaller, without(before, r.Prefix))
		spoil(fib.Remove(l, r.Prefix))
		if !unchanged() || !untouched(r.Next) || !equal(r, kept) {
			t.Fatal("a table shares memory with an argument")
		}
	}
}

// TestNextLinksHaveTheirOwnMemory looks whether routes of a table share their next links where those of the arguments do.
func TestNextLinksHaveTheirOwnMemory(t *testing.T) {
	next := []int{1, 2, 3}
	l := []api.Route{{Prefix: pre(0, 0), Next: next}, {Prefix: pre(10<<24, 8), Next: next}}
	for _, got := range [][]api.Route{fib.Put(l, api.Route{Prefix: pre(10<<24, 9), Next: next}), fib.Remove(l, pre(9<<24, 8))} {
		for i := range got {
			got[i].Next[0] = 10 + i
		}
		for i := range got {
			if got[i].Next[0] != 10+i {
				t.Errorf("route %d shares memory", i)
			}
		}
	}
}

// TestLookupAfterPut looks whether the route that was put is that of its addresses, unless a longer prefix contains them.
func TestLookupAfterPut(t *testing.T) {
	number := numbers(6)
	as := edges(tree())
	for range 5 {
		l := some(tree(), 40, number)
		for _, r := range samples() {
			got := fib.Put(l, r)
			for _, a := range as {
				old, had := longest(l, a)
				if holds(r.Prefix, a) && (!had || old.Prefix.Len <= r.Prefix.Len) {
					old, had = r, true
				}
				if now, has := fib.Lookup(got, a); has != had || !equal(now, old) {
					t.Fatalf("%x after Put of %v: %v, want %v", a, r, now, old)
				}
			}
		}
	}
}

// TestOrderOfPuts puts the same routes in many orders.
func TestOrderOfPuts(t *testing.T) {
	number := numbers(7)
	want := some(tree(), 50, number)
	for range 50 {
		order := copied(want)
		for i := range order {
			j := i + number(len(order)-i)
			order[i], order[j] = order[j], order[i]
		}
		var l []api.Route
		for _, r := range order {
			l = fib.Put(l, r)
		}
		expect(t, "puts", l, want)
		for _, r := range order[:len(order)/2] {
			l = fib.Remove(l, r.Prefix)
		}
		for _, r := range order[len(order)/2:] {
			if x, ok := fib.Lookup(l, r.Prefix.Address); !ok || x.Prefix.Address != r.Prefix.Address {
				t.Errorf("%v is lost: %v, %t", r, x, ok)
			}
		}
		if len(l) != len(order)-len(order)/2 {
			t.Errorf("%d routes are left", len(l))
		}
	}
}

// TestAnyTables looks whether the functions return for tables that are not as they are expected.
func TestAnyTables(t *testing.T) {
	number := numbers(8)
	lens := []int{math.MinInt, -1, 0, 1, 8, 31, 32, 33, math.MaxInt}
	for range 2000 {
		l := make([]api.Route, number(12))
		for i := range l {
			l[i] = api.Route{Prefix: api.Prefix{Address: api.Address(number(4)) << (10 * number(4)), Len: lens[number(len(lens))]}, Next: row(number(20)), Balance: number(9) - 3}
		}
		list, unchanged := roomy(l)
		r := api.Route{Prefix: api.Prefix{Address: api.Address(number(4)) << (10 * number(4)), Len: lens[number(len(lens))]}}
		fib.Check(list, row(number(20)))
		fib.Lookup(list, r.Prefix.Address)
		spoil(fib.Put(list, r))
		spoil(fib.Remove(list, r.Prefix))
		if !unchanged() {
			t.Fatal("an argument was changed")
		}
	}
}
