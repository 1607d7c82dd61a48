// Package money is layer 1: whole numbers that never wrap. See shared/doc/01-money.md.
package money

import "groupage/api"

// numberBits is how many bits a number that may be has beside its sign.
const numberBits = 62

// Add tells a sum.
func Add(a, b int64) (int64, api.Errno) {
	if !mayBe(a) || !mayBe(b) {
		return 0, api.ErrArg
	}
	// Two numbers that may be add up to less than 2^63, so this cannot wrap.
	return checked(a + b)
}

// Mul tells a product.
func Mul(a, b int64) (int64, api.Errno) {
	if !mayBe(a) || !mayBe(b) {
		return 0, api.ErrArg
	}
	if b != 0 && size(a) > api.MostNumber/size(b) {
		return 0, api.ErrFull
	}
	return a * b, api.OK
}

// Sum tells the sum of all.
func Sum(l []int64) (int64, api.Errno) {
	// All are looked at first: a number that may not be comes ahead of a sum that may not.
	for _, n := range l {
		if !mayBe(n) {
			return 0, api.ErrArg
		}
	}
	sum := int64(0)
	for _, n := range l {
		next, e := Add(sum, n)
		if e != api.OK {
			return 0, e
		}
		sum = next
	}
	return sum, api.OK
}

// Share tells a part's share of a total, and what is left.
func Share(total, part, all int64) (int64, int64, api.Errno) {
	if !mayBe(total) || !mayBe(all) || total < 0 || all < 1 || part < 0 || part > all {
		return 0, 0, api.ErrArg
	}
	// The product may be too great for any number, so the total is taken bit by bit, the
	// highest first: what is left stays below all, and the share at most the total.
	share, left := int64(0), int64(0)
	for i := range numberBits {
		var over, more int64
		over, left = takeOut(left+left, all)
		if total>>(numberBits-1-i)&1 == 1 {
			more, left = takeOut(left+part, all)
		}
		share = share + share + over + more
	}
	return share, left, api.OK
}

// takeOut takes all out of n, which is below two times all, if it is in it: how often, and what is left.
func takeOut(n, all int64) (int64, int64) {
	if n < all {
		return 0, n
	}
	return 1, n - all
}

// mayBe tells whether n is a number that may be.
func mayBe(n int64) bool {
	return n >= -api.MostNumber && n <= api.MostNumber
}

// checked answers n if it may be.
func checked(n int64) (int64, api.Errno) {
	if !mayBe(n) {
		return 0, api.ErrFull
	}
	return n, api.OK
}

// size is n without its sign.
func size(n int64) int64 {
	if n < 0 {
		return -n
	}
	return n
}
