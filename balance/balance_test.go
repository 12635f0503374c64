package balance_test

import (
	"math"
	"math/big"
	"testing"

	"routescope/api"
	"routescope/balance"
)

// size is 2^64.
var size = new(big.Int).Lsh(big.NewInt(1), 64)

// edges holds ints where signs and sizes matter.
var edges = []int{0, 1, 2, 17, 65535, math.MaxUint32, math.MaxUint32 + 1, math.MaxInt - 1, math.MaxInt, -1, -2, -17, math.MinInt32, math.MinInt + 1, math.MinInt}

// words holds numbers of 64 bits: each bit alone, all bits up to one, and others.
func words() []uint64 {
	list := []uint64{0, 0x61C8864680B583EB, 0x61C8864680B583EA, 0x9E3779B97F4A7C15, 0xBF58476D1CE4E5B9, 0x94D049BB133111EB}
	for bit := range 64 {
		list = append(list, 1<<bit, 1<<bit-1, ^(uint64(1) << bit), -(uint64(1) << bit))
	}
	number := numbers(1)
	for range 2000 {
		list = append(list, number())
	}
	return list
}

// numbers yields the numbers of a fixed sequence, to choose test inputs by.
func numbers(seed uint64) func() uint64 {
	x := seed
	return func() uint64 {
		x = x*6364136223846793005 + 1442695040888963407
		return x ^ x>>29
	}
}

// modulo returns z as a number modulo 2^64.
func modulo(z *big.Int) *big.Int { return new(big.Int).Mod(z, size) }

// shaken returns z xor z / 2^bits.
func shaken(z *big.Int, bits int64) *big.Int {
	power := new(big.Int).Exp(big.NewInt(2), big.NewInt(bits), nil)
	return new(big.Int).Xor(z, new(big.Int).Div(z, power))
}

// product returns z * factor modulo 2^64.
func product(z *big.Int, factor uint64) *big.Int {
	return modulo(new(big.Int).Mul(z, new(big.Int).SetUint64(factor)))
}

// mix returns what Mix requires, with numbers of any size.
func mix(x *big.Int) *big.Int {
	z := modulo(new(big.Int).Add(x, new(big.Int).SetUint64(0x9E3779B97F4A7C15)))
	z = product(shaken(z, 30), 0xBF58476D1CE4E5B9)
	z = product(shaken(z, 27), 0x94D049BB133111EB)
	return shaken(z, 31)
}

// hash returns what Hash requires, with numbers of any size.
func hash(seed int, k api.Key) uint64 {
	h := mix(modulo(big.NewInt(int64(seed))))
	for _, x := range []int64{int64(k.Src), int64(k.Dst), int64(k.Proto), int64(k.A), int64(k.B)} {
		h = mix(new(big.Int).Xor(h, modulo(big.NewInt(x))))
	}
	return h.Uint64()
}

// rest returns h modulo n.
func rest(h uint64, n int) int {
	return int(new(big.Int).Mod(new(big.Int).SetUint64(h), big.NewInt(int64(n))).Int64())
}

// keys holds keys with ordinary numbers, and with edges in all places.
func keys() []api.Key {
	list := []api.Key{{}, {Src: 10<<24 | 1, Dst: 192<<24 | 2<<8 | 9, Proto: api.ProtoUDP, A: 33434, B: 80}, {Src: 1, Dst: 2, Proto: 17, A: 4, B: 5}}
	for _, a := range []api.Address{0, 1, math.MaxInt32, 1 << 31, math.MaxUint32} {
		list = append(list, api.Key{Src: a}, api.Key{Dst: a}, api.Key{Src: a, Dst: a, Proto: 6, A: 1, B: 2})
	}
	for _, x := range edges {
		list = append(list, api.Key{Proto: x}, api.Key{A: x}, api.Key{B: x}, api.Key{Src: 9, Dst: 8, Proto: x, A: x, B: x})
	}
	number := numbers(2)
	for range 100 {
		list = append(list, api.Key{Src: api.Address(number()), Dst: api.Address(number()), Proto: int(number() % 256), A: int(number() % 65536), B: int(number() % 65536)})
	}
	return list
}

// changed returns the keys that differ from k in exactly one number.
func changed(k api.Key) []api.Key {
	list := []api.Key{k, k, k, k, k, k, k, k, k, k}
	list[0].Src, list[1].Src = k.Src+1, k.Src^1<<31
	list[2].Dst, list[3].Dst = k.Dst+1, k.Dst^1<<31
	list[4].Proto, list[5].Proto = k.Proto+1, -1-k.Proto
	list[6].A, list[7].A = k.A+1, -1-k.A
	list[8].B, list[9].B = k.B+1, -1-k.B
	return list
}

// P10.1

func TestMixExamples(t *testing.T) {
	for x, want := range map[uint64]uint64{0: 0xE220A8397B1DCDAF, 0x9E3779B97F4A7C15: 0x6E789E6AA1B965F4, 0x3C6EF372FE94F82A: 0x06C45D188009454F, 1234567: 6457827717110365317} {
		if got := balance.Mix(x); got != want {
			t.Errorf("Mix(%x) is %x, want %x", x, got, want)
		}
	}
}

func TestMix(t *testing.T) {
	for _, x := range words() {
		if got, want := balance.Mix(x), mix(new(big.Int).SetUint64(x)).Uint64(); got != want {
			t.Errorf("Mix(%x) is %x, want %x", x, got, want)
		}
	}
}

// unshaken returns the z of which shaken(z, bits) is y.
func unshaken(y uint64, bits int) uint64 {
	z := y
	for range 64 / bits {
		z = y ^ z>>bits
	}
	return z
}

// inverse returns the number whose product with factor is 1 modulo 2^64.
func inverse(factor uint64) uint64 {
	return new(big.Int).ModInverse(new(big.Int).SetUint64(factor), size).Uint64()
}

// TestMixIsBijection goes back from what Mix returns to its argument, and from any number to an argument for it.
func TestMixIsBijection(t *testing.T) {
	second, first := inverse(0x94D049BB133111EB), inverse(0xBF58476D1CE4E5B9)
	back := func(y uint64) uint64 {
		z := unshaken(y, 31) * second
		z = unshaken(z, 27) * first
		return unshaken(z, 30) - 0x9E3779B97F4A7C15
	}
	for _, x := range words() {
		if got := back(balance.Mix(x)); got != x {
			t.Errorf("back from Mix(%x): %x", x, got)
		}
		if got := balance.Mix(back(x)); got != x {
			t.Errorf("Mix of what belongs to %x: %x", x, got)
		}
	}
}

// P10.2

func TestHash(t *testing.T) {
	for _, k := range keys() {
		for _, seed := range edges {
			if got, want := balance.Hash(seed, k), hash(seed, k); got != want {
				t.Errorf("Hash(%d, %v) is %x, want %x", seed, k, got, want)
			}
		}
	}
}

// TestHashOfOneNumberChanged changes the seed or one number of a key: as Mix is a bijection, the hash is always another one.
func TestHashOfOneNumberChanged(t *testing.T) {
	for _, k := range keys() {
		for _, seed := range edges {
			h := balance.Hash(seed, k)
			for _, x := range changed(k) {
				if balance.Hash(seed, x) == h {
					t.Errorf("seed %d: %v and %v have one hash", seed, k, x)
				}
			}
			if balance.Hash(seed+1, k) == h || balance.Hash(-1-seed, k) == h {
				t.Errorf("%v has one hash for the seed %d and another one", k, seed)
			}
		}
	}
}

// TestHashInOrder exchanges numbers of a key: their order matters.
func TestHashInOrder(t *testing.T) {
	k := api.Key{Src: 1, Dst: 2, Proto: 3, A: 4, B: 5}
	seen := map[uint64]bool{balance.Hash(7, k): true}
	for _, x := range []api.Key{{Src: 2, Dst: 1, Proto: 3, A: 4, B: 5}, {Src: 1, Dst: 3, Proto: 2, A: 4, B: 5}, {Src: 1, Dst: 2, Proto: 4, A: 3, B: 5}, {Src: 1, Dst: 2, Proto: 3, A: 5, B: 4}} {
		h := balance.Hash(7, x)
		if seen[h] {
			t.Errorf("%v has the hash of another key", x)
		}
		seen[h] = true
	}
}
