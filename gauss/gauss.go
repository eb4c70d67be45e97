// Package gauss reckons with whole complex numbers.
package gauss

import (
	"math"

	"drydock/api"
)

// greatest is how far from 0 a part of a whole number may be.
const greatest = 1 << 20

// Whole: are both parts whole numbers, from -2^20 to 2^20?
func Whole(z complex128) bool {
	return wholePart(real(z)) && wholePart(imag(z))
}

// Norm: the sum of the squares of both parts.
func Norm(z complex128) (int, api.Errno) {
	if !Whole(z) {
		return 0, api.ErrArg
	}
	return norm(z), api.OK
}

// Times: a product.
func Times(a, b complex128) (complex128, api.Errno) {
	if !Whole(a) || !Whole(b) {
		return 0, api.ErrArg
	}
	// The parts stay below 2^42, so floats hold them exactly.
	product := a * b
	if !Whole(product) {
		return 0, api.ErrRange
	}
	return signless(product), api.OK
}

// Divide: how often one goes into another, and the rest.
func Divide(a, b complex128) (q, r complex128, e api.Errno) {
	if !Whole(a) || !Whole(b) {
		return 0, 0, api.ErrArg
	}
	if b == 0 {
		return 0, 0, api.ErrNone
	}
	q, r = divide(a, b)
	return q, r, api.OK
}

// Common: the greatest that goes into both.
func Common(a, b complex128) (complex128, api.Errno) {
	if !Whole(a) || !Whole(b) {
		return 0, api.ErrArg
	}
	// This ends: a rest's Norm is at most half of the divisor's.
again:
	if b == 0 {
		return firstQuarter(a), api.OK
	}
	_, rest := divide(a, b)
	a, b = b, rest
	goto again
}

// Turn: turned to the left by so many quarters.
func Turn(z complex128, quarters int) complex128 {
	// The low two bits are the rest by four, of numbers below 0 too.
	for range quarters & 3 {
		// A product with i would make NaN of infinite parts.
		z = complex(-imag(z), real(z))
	}
	return signless(z)
}

func wholePart(x float64) bool {
	// NaN is neither, so it needs no question of its own.
	return x >= -greatest && x <= greatest && x == math.Trunc(x)
}

func norm(z complex128) int {
	return int(real(z)*real(z) + imag(z)*imag(z))
}

func conjugate(z complex128) complex128 {
	return complex(real(z), -imag(z))
}

// divide is Divide of whole numbers, of which b is not 0.
func divide(a, b complex128) (q, r complex128) {
	turned := a * conjugate(b)
	n := norm(b)
	q = complex(nearest(real(turned), n), nearest(imag(turned), n))
	return q, signless(a - q*b)
}

// nearest reckons in ints, since a float's quotient may be rounded over a half.
func nearest(x float64, n int) float64 {
	above, below := 2*int(x)+n, 2*n
	q := above / below
	if above%below < 0 {
		q--
	}
	return float64(q)
}

// firstQuarter picks, of a number and its turns, the one that Common answers.
func firstQuarter(z complex128) complex128 {
	for range 4 {
		if real(z) > 0 && imag(z) >= 0 {
			break
		}
		z = Turn(z, 1)
	}
	return signless(z)
}

// signless keeps zeros that have a sign out of answers.
func signless(z complex128) complex128 {
	return complex(signlessPart(real(z)), signlessPart(imag(z)))
}

func signlessPart(x float64) float64 {
	if x == 0 {
		return 0
	}
	return x
}
