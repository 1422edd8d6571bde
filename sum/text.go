package sum

import "undercroft/api"

const digits = "0123456789abcdef"

// Print is a sum as text.
func Print(s api.Sum) string {
	b := make([]byte, 0, 64)
	for _, n := range [4]uint64{s.A, s.B, s.C, s.D} {
		for i := 60; i >= 0; i -= 4 {
			b = append(b, digits[n>>i&15])
		}
	}
	return string(b)
}

// digit is what a digit to the base sixteen says.
func digit(c byte) (uint64, bool) {
	switch {
	case c >= '0' && c <= '9':
		return uint64(c - '0'), true
	case c >= 'a' && c <= 'f':
		return uint64(c-'a') + 10, true
	}
	return 0, false
}

// Parse reads such a text.
func Parse(s string) (api.Sum, api.Errno) {
	if len(s) != 64 {
		return api.Sum{}, api.ErrSumText
	}
	var n [4]uint64
	for i := range 64 {
		d, ok := digit(s[i])
		if !ok {
			return api.Sum{}, api.ErrSumText
		}
		n[i/16] = n[i/16]<<4 | d
	}
	return api.Sum{A: n[0], B: n[1], C: n[2], D: n[3]}, api.OK
}
