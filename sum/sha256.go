package sum

import (
	"math/bits"

	"undercroft/api"
)

// primes are the numbers k of SHA-256.
var primes = [64]uint32{
	0x428a2f98, 0x71374491, 0xb5c0fbcf, 0xe9b5dba5, 0x3956c25b, 0x59f111f1, 0x923f82a4, 0xab1c5ed5,
	0xd807aa98, 0x12835b01, 0x243185be, 0x550c7dc3, 0x72be5d74, 0x80deb1fe, 0x9bdc06a7, 0xc19bf174,
	0xe49b69c1, 0xefbe4786, 0x0fc19dc6, 0x240ca1cc, 0x2de92c6f, 0x4a7484aa, 0x5cb0a9dc, 0x76f988da,
	0x983e5152, 0xa831c66d, 0xb00327c8, 0xbf597fc7, 0xc6e00bf3, 0xd5a79147, 0x06ca6351, 0x14292967,
	0x27b70a85, 0x2e1b2138, 0x4d2c6dfc, 0x53380d13, 0x650a7354, 0x766a0abb, 0x81c2c92e, 0x92722c85,
	0xa2bfe8a1, 0xa81a664b, 0xc24b8b70, 0xc76c51a3, 0xd192e819, 0xd6990624, 0xf40e3585, 0x106aa070,
	0x19a4c116, 0x1e376c08, 0x2748774c, 0x34b0bcb5, 0x391c0cb3, 0x4ed8aa4a, 0x5b9cca4f, 0x682e6ff3,
	0x748f82ee, 0x78a5636f, 0x84c87814, 0x8cc70208, 0x90befffa, 0xa4506ceb, 0xbef9a3f7, 0xc67178f2,
}

// sha256 is that sum of bytes.
func sha256(b []byte) api.Sum {
	h := [8]uint32{0x6a09e667, 0xbb67ae85, 0x3c6ef372, 0xa54ff53a, 0x510e527f, 0x9b05688c, 0x1f83d9ab, 0x5be0cd19}
	n := len(b)
	for ; len(b) >= 64; b = b[64:] {
		h = block(h, b)
	}
	var tail [128]byte // what is left, the byte 80, noughts, and the length: one block or two
	copy(tail[:], b)
	tail[len(b)] = 0x80
	end := 64
	if len(b) >= 56 {
		end = 128
	}
	for i := range 8 {
		tail[end-1-i] = byte(uint64(n) << 3 >> (8 * i))
	}
	for at := 0; at < end; at += 64 {
		h = block(h, tail[at:at+64])
	}
	return api.Sum{A: pair(h[0], h[1]), B: pair(h[2], h[3]), C: pair(h[4], h[5]), D: pair(h[6], h[7])}
}

func pair(high, low uint32) uint64 { return uint64(high)<<32 | uint64(low) }

// right is a turn to the right.
func right(x uint32, by int) uint32 { return bits.RotateLeft32(x, -by) }

// block is what h is behind 64 bytes more.
func block(h [8]uint32, b []byte) [8]uint32 {
	var w [64]uint32
	for t := range 16 {
		w[t] = low(b[4*t+3], b[4*t+2], b[4*t+1], b[4*t])
	}
	for t := 16; t < 64; t++ {
		s0 := right(w[t-15], 7) ^ right(w[t-15], 18) ^ w[t-15]>>3
		s1 := right(w[t-2], 17) ^ right(w[t-2], 19) ^ w[t-2]>>10
		w[t] = w[t-16] + s0 + w[t-7] + s1
	}
	a, bb, c, d, e, f, g, hh := h[0], h[1], h[2], h[3], h[4], h[5], h[6], h[7]
	for t := range 64 {
		t1 := hh + (right(e, 6) ^ right(e, 11) ^ right(e, 25)) + (e&f ^ ^e&g) + primes[t] + w[t]
		t2 := (right(a, 2) ^ right(a, 13) ^ right(a, 22)) + (a&bb ^ a&c ^ bb&c)
		hh, g, f, e, d, c, bb, a = g, f, e, d+t1, c, bb, a, t1+t2
	}
	return [8]uint32{h[0] + a, h[1] + bb, h[2] + c, h[3] + d, h[4] + e, h[5] + f, h[6] + g, h[7] + hh}
}
