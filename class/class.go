// Package class is layer 1, sets of bytes: see shared/doc/01-class.md.
package class

import (
	"math/bits"

	"scantling/api"
)

// Of answers the bytes from from to to.
func Of(from, to byte) api.Class {
	var a api.Class
	// Counted in int: a byte would wrap round behind 255, and a number below 1 is ranged over not at all.
	for i := range int(to) - int(from) + 1 {
		a = Add(a, byte(int(from)+i))
	}
	return a
}

// Has tells whether c is in the class.
func Has(a api.Class, c byte) bool {
	return a[c/64]>>(c%64)&1 == 1
}

// Add answers the class and the bytes of the list.
func Add(a api.Class, list ...byte) api.Class {
	for _, c := range list {
		a[c/64] |= 1 << (c % 64)
	}
	return a
}

// Join answers the bytes of either class.
func Join(a, b api.Class) api.Class {
	for i := range len(a) {
		a[i] |= b[i]
	}
	return a
}

// Both answers the bytes that both classes have.
func Both(a, b api.Class) api.Class {
	for i := range len(a) {
		a[i] &= b[i]
	}
	return a
}

// Not answers the bytes that the class hasn't.
func Not(a api.Class) api.Class {
	for i := range len(a) {
		a[i] = ^a[i]
	}
	return a
}

// Least answers the class's least byte, and true; 0 and false, if it has none.
func Least(a api.Class) (byte, bool) {
	for i := range len(a) {
		if a[i] != 0 {
			return byte(64*i + bits.TrailingZeros64(a[i])), true
		}
	}
	return 0, false
}

// Count answers how many bytes the class has.
func Count(a api.Class) int {
	n := 0
	for i := range len(a) {
		n += bits.OnesCount64(a[i])
	}
	return n
}
