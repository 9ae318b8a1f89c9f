// Package bits is layer 1: see shared/doc/01-bits.md.
package bits

import "pannier/api"

const (
	maxWidth = 64
	ownLimit = 1 << 62 // numbers from here on have no gamma code
	longest  = 125     // bits of the gamma code of ownLimit - 1
)

// Right tells whether a bit string is valid.
func Right(b []byte, n int) bool {
	if n < 0 || len(b) != bytesFor(n) {
		return false
	}
	return n%8 == 0 || b[n/8]<<(n%8) == 0
}

// Put appends the code of v with width w.
func Put(b []byte, n int, v uint64, w int) ([]byte, int, api.Errno) {
	if !Right(b, n) || w < 0 || w > maxWidth || v>>w != 0 {
		return nil, 0, api.ErrArg
	}
	out, end := lay(b, n, v, w)
	return out, end, api.OK
}

// Take reads the number whose code with width w stands at a position.
func Take(b []byte, n, at, w int) (uint64, api.Errno) {
	if !Right(b, n) || w < 0 || w > maxWidth || at < 0 || at > n {
		return 0, api.ErrArg
	}
	if n-at < w {
		return 0, api.ErrBits
	}
	return number(b, at, at+w), api.OK
}

// PutOwn appends the gamma code of v.
func PutOwn(b []byte, n int, v uint64) ([]byte, int, api.Errno) {
	if !Right(b, n) || v >= ownLimit {
		return nil, 0, api.ErrArg
	}
	// The zeros of the code are those before x in a width of one bit less than twice its own.
	out, end := lay(b, n, v+1, 2*width(v+1)-1)
	return out, end, api.OK
}

// TakeOwn reads the number whose gamma code stands at a position, and tells where that code ends.
func TakeOwn(b []byte, n, at int) (uint64, int, api.Errno) {
	if !Right(b, n) || at < 0 || at > n {
		return 0, 0, api.ErrArg
	}
	room := min(n-at, longest)
	size := 1 // bits of the code, if the next bit is its first 1
scan:
	for bit := range span(b, at, n) {
		switch {
		case size > room:
			break scan
		case bit == 1:
			x := number(b, at+size/2, at+size)
			// Among the longest codes only the one of ownLimit - 1 belongs to a number below the limit.
			if x > ownLimit {
				break scan
			}
			return x - 1, at + size, api.OK
		}
		size += 2
	}
	return 0, 0, api.ErrBits
}

// bytesFor doesn't round up by adding, which would overflow at the greatest n.
func bytesFor(n int) int {
	if n%8 == 0 {
		return n / 8
	}
	return n/8 + 1
}

func width(v uint64) int {
	w := 0
	for ; v > 0; v >>= 1 {
		w++
	}
	return w
}

// span enumerates the bits from a position on, up to the one before end.
func span(b []byte, at, end int) func(yield func(uint64) bool) {
	return func(yield func(uint64) bool) {
		for i := at; i < end; i++ {
			if !yield(uint64(b[i/8]>>(7-i%8)) & 1) {
				return
			}
		}
	}
}

// digits enumerates the w lowest bits of v, the most significant first; w may exceed 64.
func digits(v uint64, w int) func(yield func(byte) bool) {
	return func(yield func(byte) bool) {
		for i := w - 1; i >= 0; i-- {
			if !yield(byte(v>>i) & 1) {
				return
			}
		}
	}
}

func number(b []byte, at, end int) uint64 {
	v := uint64(0)
	for bit := range span(b, at, end) {
		v = v<<1 | bit
	}
	return v
}

// lay copies a valid bit string, and appends the w lowest bits of v.
func lay(b []byte, n int, v uint64, w int) ([]byte, int) {
	out := make([]byte, bytesFor(n+w))
	copy(out, b)
	at := n
	for bit := range digits(v, w) {
		out[at/8] |= bit << (7 - at%8)
		at++
	}
	return out, at
}
