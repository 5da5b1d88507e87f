// Package key is layer 1: keys, and what of them a prefix says. See shared/doc/01-key.md.
package key

import (
	"bytes"
	"math/bits"

	"byway/api"
)

// May a prefix be?
func May(p api.Prefix) bool {
	if p.Bits != api.Short && p.Bits != api.Wide {
		return false
	}
	return p.Len >= 0 && p.Len <= p.Bits && endsBy(p.Key, p.Len)
}

// Bit of a key.
func Bit(k api.Key, n int) int {
	if n < 0 || n >= api.Wide {
		return 0
	}
	return int(k[n/8]>>(7-n%8)) & 1
}

// Cut a key.
func Cut(k api.Key, n int) api.Key {
	if n >= api.Wide {
		return k
	}
	if n < 1 {
		return api.Key{}
	}
	var cut api.Key
	copy(cut[:], k[:n/8])
	cut[n/8] = k[n/8] &^ (byte(0xFF) >> (n % 8))
	return cut
}

// Common bits of two keys.
func Common(a, b api.Key) int {
	for i := range a {
		if unlike := a[i] ^ b[i]; unlike != 0 {
			return 8*i + bits.LeadingZeros8(unlike)
		}
	}
	return api.Wide
}

// Step of a key.
func Step(k api.Key, n int) int {
	// n is held against the number of steps: 4*n could wrap round.
	if n < 0 || n >= api.Wide/4 {
		return 0
	}
	if n%2 == 0 {
		return int(k[n/2] >> 4)
	}
	return int(k[n/2] & 15)
}

// Fits a prefix a key?
func Fits(p api.Prefix, k api.Key) bool {
	return May(p) && endsBy(k, p.Bits) && Common(p.Key, k) >= p.Len
}

// Covers a prefix another one?
func Covers(p, q api.Prefix) bool {
	return May(q) && p.Bits == q.Bits && p.Len <= q.Len && Fits(p, q.Key)
}

// Less: is a prefix ahead of another one?
func Less(p, q api.Prefix) bool {
	if !May(p) || !May(q) {
		return false
	}
	if p.Bits != q.Bits {
		return p.Bits < q.Bits
	}
	if order := bytes.Compare(p.Key[:], q.Key[:]); order != 0 {
		return order < 0
	}
	return p.Len < q.Len
}

// endsBy tells whether no bit of k is set behind the first n.
func endsBy(k api.Key, n int) bool {
	return Cut(k, n) == k
}
