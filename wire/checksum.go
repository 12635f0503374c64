package wire

// Add returns the one's complement sum of two numbers from 0 to 65535, and 0 for others.
func Add(a, b int) int {
	if !inPair(a) || !inPair(b) {
		return 0
	}
	return fold(a + b)
}

// Sum returns the one's complement sum of the bytes of b, taken in pairs.
func Sum(b []byte) int {
	sum := 0
	for i, x := range b {
		// A last single byte is thus taken with a 0 behind it.
		if i%2 == 0 {
			sum += int(x) << 8
		} else {
			sum += int(x)
		}
	}
	// An int holds the sum of all the bytes that a program may be given, so one folding at the end is enough.
	return fold(sum)
}

// Checksum returns the Internet checksum of b.
func Checksum(b []byte) int { return most - Sum(b) }

// Update returns the checksum that results from the checksum sum if one number old among the added ones is replaced by now, and 0 if one of the three is not from 0 to 65535.
func Update(sum, old, now int) int {
	if !inPair(sum) || !inPair(old) || !inPair(now) {
		return 0
	}
	return most - fold(most-sum+most-old+now)
}

// inPair reports whether n is a number in a pair of bytes.
func inPair(n int) bool { return n >= 0 && n <= most }

// fold adds the bits of a sum from 16 on to its lower 16 bits until there are none.
func fold(sum int) int {
	for sum > most {
		sum = sum>>16 + sum&most
	}
	return sum
}
