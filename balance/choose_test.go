package balance_test

import (
	"math"
	"testing"

	"routescope/api"
	"routescope/balance"
)

// ways holds all ways to choose a link.
var ways = []int{api.PerFlow, api.PerDestination, api.PerPacket}

// counts holds counts of packets that are permitted.
var counts = []int{0, 1, 2, 15, 16, 17, 1000, math.MaxUint32, math.MaxInt - 1, math.MaxInt}

// choose returns the link of Choose, which must be one of n.
func choose(t *testing.T, way, seed int, k api.Key, count, n int) int {
	t.Helper()
	got, e := balance.Choose(way, seed, k, count, n)
	if e != api.OK || got < 0 || got >= n {
		t.Errorf("Choose(%d, %d, %v, %d, %d): %d, %d", way, seed, k, count, n, got, e)
	}
	return got
}

// P10.3

func TestChoosePerFlow(t *testing.T) {
	for _, k := range keys() {
		for _, seed := range []int{0, 1, -1, 12345, math.MaxInt, math.MinInt} {
			h := hash(seed, k)
			for n := 1; n <= api.MaxNext; n++ {
				if got := choose(t, api.PerFlow, seed, k, 3, n); got != rest(h, n) {
					t.Errorf("%v with the seed %d: %d of %d", k, seed, got, n)
				}
			}
		}
	}
}

func TestChoosePerDestination(t *testing.T) {
	for _, k := range keys() {
		for _, seed := range []int{0, 1, -1, 12345, math.MaxInt, math.MinInt} {
			h := hash(seed, api.Key{Src: k.Src, Dst: k.Dst})
			for n := 1; n <= api.MaxNext; n++ {
				if got := choose(t, api.PerDestination, seed, k, 3, n); got != rest(h, n) {
					t.Errorf("%v with the seed %d: %d of %d", k, seed, got, n)
				}
			}
		}
	}
}

func TestChoosePerPacket(t *testing.T) {
	for _, count := range counts {
		for n := 1; n <= api.MaxNext; n++ {
			for seed, k := range keys() {
				if got := choose(t, api.PerPacket, seed, k, count, n); got != rest(uint64(count), n) {
					t.Errorf("the count %d: %d of %d", count, got, n)
				}
			}
		}
	}
}

// TestChooseAmongOne looks whether a single link is always taken.
func TestChooseAmongOne(t *testing.T) {
	for _, way := range ways {
		for seed, k := range keys() {
			for _, count := range counts {
				if got := choose(t, way, -seed, k, count, 1); got != 0 {
					t.Errorf("the way %d, %v: %d", way, k, got)
				}
			}
		}
	}
}

// TestChooseIsIndependent changes what must not matter: per flow the count, and per destination all but the addresses, too.
func TestChooseIsIndependent(t *testing.T) {
	for seed, k := range keys() {
		flow, destination := choose(t, api.PerFlow, seed, k, 0, 16), choose(t, api.PerDestination, seed, k, 0, 16)
		for i, count := range counts {
			if choose(t, api.PerFlow, seed, k, count, 16) != flow {
				t.Errorf("per flow: %v depends on the count", k)
			}
			other := api.Key{Src: k.Src, Dst: k.Dst, Proto: k.Proto + i, A: i, B: k.B ^ count}
			if choose(t, api.PerDestination, seed, other, count, 16) != destination {
				t.Errorf("per destination: %v and %v differ", k, other)
			}
		}
	}
}

// TestChooseDependsOnAllNumbers looks whether each number that has to matter leads to all links.
func TestChooseDependsOnAllNumbers(t *testing.T) {
	makers := []func(x int) (int, api.Key){
		func(x int) (int, api.Key) { return x, api.Key{} },
		func(x int) (int, api.Key) { return 0, api.Key{Src: api.Address(x)} },
		func(x int) (int, api.Key) { return 0, api.Key{Dst: api.Address(x)} },
		func(x int) (int, api.Key) { return 0, api.Key{Proto: x} },
		func(x int) (int, api.Key) { return 0, api.Key{A: x} },
		func(x int) (int, api.Key) { return 0, api.Key{B: x} },
	}
	for _, way := range []int{api.PerFlow, api.PerDestination} {
		for i, maker := range makers {
			seen := map[int]bool{}
			for x := range 500 {
				seed, k := maker(x)
				seen[choose(t, way, seed, k, 0, api.MaxNext)] = true
			}
			want := api.MaxNext
			if way == api.PerDestination && i > 2 {
				want = 1
			}
			if len(seen) != want {
				t.Errorf("the way %d, the number %d: %d links, want %d", way, i, len(seen), want)
			}
		}
	}
}

// TestPerPacketTakesTurns looks whether consecutive counts get each link once.
func TestPerPacketTakesTurns(t *testing.T) {
	for n := 1; n <= api.MaxNext; n++ {
		for _, start := range []int{0, 1, 5, 1000, math.MaxInt - api.MaxNext} {
			seen := map[int]bool{}
			for i := range n {
				seen[choose(t, api.PerPacket, i, api.Key{A: i}, start+i, n)] = true
			}
			if len(seen) != n {
				t.Errorf("%d counts from %d on: %d links", n, start, len(seen))
			}
		}
	}
}

// refuse looks whether Choose refuses its arguments.
func refuse(t *testing.T, way, count, n int) {
	t.Helper()
	for seed, k := range []api.Key{{}, {Src: 1, Dst: 2, Proto: 17, A: 4, B: 5}} {
		if got, e := balance.Choose(way, seed, k, count, n); e != api.ErrRange || got != 0 {
			t.Errorf("Choose(%d, %d, %v, %d, %d): %d, %d", way, seed, k, count, n, got, e)
		}
	}
}

func TestChooseRange(t *testing.T) {
	badWays := []int{0, -1, 4, 5, 1<<32 + 1, 1<<32 + 3, math.MaxInt, math.MinInt, math.MinInt + 1}
	badSizes := []int{0, -1, -16, 17, 18, 32, 1<<32 + 1, math.MaxInt, math.MinInt}
	badCounts := []int{-1, -2, -16, math.MinInt, math.MinInt + 1}
	for _, way := range badWays {
		for n := -1; n <= api.MaxNext+1; n++ {
			refuse(t, way, 0, n)
			refuse(t, way, 1, n)
			refuse(t, way, -1, n)
		}
	}
	for _, way := range ways {
		for _, n := range badSizes {
			refuse(t, way, 0, n)
			refuse(t, way, 35, n)
			refuse(t, way, -1, n)
		}
		for _, count := range badCounts {
			for n := 1; n <= api.MaxNext; n++ {
				refuse(t, way, count, n)
			}
		}
	}
}
