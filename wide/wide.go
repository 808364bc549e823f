// Package wide is layer 1: whole numbers of 128 bits, by which constants are reckoned.
package wide

import (
	"cmp"
	"math/bits"
	"strings"

	"lorgnette/api"
)

// top is the bit of Hi that tells a number below 0.
const top = 1 << 63

// Of is n as a number.
func Of(n int) api.Wide {
	w := api.Wide{Lo: uint64(n)}
	if n < 0 {
		w.Hi = ^uint64(0)
	}
	return w
}

// Int is w as an int; ErrConst, if it doesn't fit.
func Int(w api.Wide) (int, api.Errno) {
	n := int(w.Lo)
	if Of(n) != w {
		return 0, api.ErrConst
	}
	return n, api.OK
}

func isBelow(w api.Wide) bool { return w.Hi&top != 0 }

// turned is the other sign, modulo 2^128: that of the least number is itself.
func turned(w api.Wide) api.Wide {
	lo, carry := bits.Add64(^w.Lo, 1, 0)
	return api.Wide{Hi: ^w.Hi + carry, Lo: lo}
}

// size is the number without its sign; as its bits are taken without one, that of the least number is right, too.
func size(w api.Wide) api.Wide {
	if isBelow(w) {
		return turned(w)
	}
	return w
}

// signed puts the sign to a size; ErrConst, if that is no number.
func signed(w api.Wide, below bool) (api.Wide, api.Errno) {
	if below {
		w = turned(w)
	}
	if w != (api.Wide{}) && isBelow(w) != below {
		return api.Wide{}, api.ErrConst
	}
	return w, api.OK
}

// times is the product of two sizes, and whether it has at most 128 bits.
func times(a, b api.Wide) (api.Wide, bool) {
	if a.Hi != 0 && b.Hi != 0 {
		return api.Wide{}, false
	}
	hi, lo := bits.Mul64(a.Lo, b.Lo)
	over1, cross1 := bits.Mul64(a.Hi, b.Lo)
	over2, cross2 := bits.Mul64(a.Lo, b.Hi)
	hi, carry1 := bits.Add64(hi, cross1, 0)
	hi, carry2 := bits.Add64(hi, cross2, 0)
	return api.Wide{Hi: hi, Lo: lo}, over1|over2|carry1|carry2 == 0
}

// parts is what a size comes to by another one, that isn't 0, and what is left, bit by bit.
func parts(a, b api.Wide) (api.Wide, api.Wide) {
	var q, r api.Wide
	for i := 127; i >= 0; i-- {
		over := r.Hi >> 63
		r = api.Wide{Hi: r.Hi<<1 | r.Lo>>63, Lo: r.Lo<<1 | bit(a, i)}
		lo, borrow := bits.Sub64(r.Lo, b.Lo, 0)
		hi, borrow := bits.Sub64(r.Hi, b.Hi, borrow)
		q = api.Wide{Hi: q.Hi<<1 | q.Lo>>63, Lo: q.Lo << 1}
		if over == 1 || borrow == 0 {
			r = api.Wide{Hi: hi, Lo: lo}
			q.Lo |= 1
		}
	}
	return q, r
}

func bit(w api.Wide, i int) uint64 {
	if i >= 64 {
		return w.Hi >> uint(i-64) & 1
	}
	return w.Lo >> uint(i) & 1
}

// Parse is the number of decimal digits, without zeros ahead; ErrForm, ErrConst.
func Parse(s string) (api.Wide, api.Errno) {
	if s == "" || len(s) > 1 && s[0] == '0' || strings.Trim(s, "0123456789") != "" {
		return api.Wide{}, api.ErrForm
	}
	ten := api.Wide{Lo: 10}
	var w api.Wide
	for i := range len(s) {
		m, fits := times(w, ten)
		lo, carry := bits.Add64(m.Lo, uint64(s[i]-'0'), 0)
		hi, carry := bits.Add64(m.Hi, 0, carry)
		w = api.Wide{Hi: hi, Lo: lo}
		if !fits || carry != 0 || isBelow(w) {
			return api.Wide{}, api.ErrConst
		}
	}
	return w, api.OK
}

// Print is w in decimal.
func Print(w api.Wide) string {
	var digits [40]byte
	at := len(digits)
	ten := api.Wide{Lo: 10}
	left := size(w)
	for {
		q, r := parts(left, ten)
		at--
		digits[at] = byte('0' + r.Lo)
		left = q
		if left == (api.Wide{}) {
			break
		}
	}
	if isBelow(w) {
		at--
		digits[at] = '-'
	}
	return string(digits[at:])
}

// Add is the sum; ErrConst, if it doesn't fit.
func Add(a, b api.Wide) (api.Wide, api.Errno) {
	lo, carry := bits.Add64(a.Lo, b.Lo, 0)
	hi, _ := bits.Add64(a.Hi, b.Hi, carry)
	w := api.Wide{Hi: hi, Lo: lo}
	if isBelow(a) == isBelow(b) && isBelow(w) != isBelow(a) {
		return api.Wide{}, api.ErrConst
	}
	return w, api.OK
}

// Sub is the difference; ErrConst, if it doesn't fit.
func Sub(a, b api.Wide) (api.Wide, api.Errno) {
	lo, borrow := bits.Sub64(a.Lo, b.Lo, 0)
	hi, _ := bits.Sub64(a.Hi, b.Hi, borrow)
	w := api.Wide{Hi: hi, Lo: lo}
	if isBelow(a) != isBelow(b) && isBelow(w) != isBelow(a) {
		return api.Wide{}, api.ErrConst
	}
	return w, api.OK
}

// Mul is the product; ErrConst, if it doesn't fit.
func Mul(a, b api.Wide) (api.Wide, api.Errno) {
	w, fits := times(size(a), size(b))
	if !fits {
		return api.Wide{}, api.ErrConst
	}
	return signed(w, isBelow(a) != isBelow(b))
}

// Quo is a by b, towards 0; ErrConst, if b is 0, or it doesn't fit.
func Quo(a, b api.Wide) (api.Wide, api.Errno) {
	if b == (api.Wide{}) {
		return api.Wide{}, api.ErrConst
	}
	q, _ := parts(size(a), size(b))
	return signed(q, isBelow(a) != isBelow(b))
}

// Rem is what Quo leaves, with the sign of a; ErrConst, if b is 0.
func Rem(a, b api.Wide) (api.Wide, api.Errno) {
	if b == (api.Wide{}) {
		return api.Wide{}, api.ErrConst
	}
	_, r := parts(size(a), size(b))
	return signed(r, isBelow(a))
}

// Neg is the other sign; ErrConst, if that doesn't fit.
func Neg(a api.Wide) (api.Wide, api.Errno) { return Sub(api.Wide{}, a) }

// Cmp is -1, 0 or 1, as a is below b, the same, above it.
func Cmp(a, b api.Wide) int {
	return cmp.Or(cmp.Compare(int64(a.Hi), int64(b.Hi)), cmp.Compare(a.Lo, b.Lo))
}
