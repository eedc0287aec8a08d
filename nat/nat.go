// Package nat is layer 1: natural numbers as lists of words of 64 bits, the lowest first. See shared/doc/01-nat.md.
package nat

import (
	"math/bits"
	"slices"
	"strconv"
	"strings"

	"ramage/api"
)

const (
	wordBits = 64
	// The greatest power of ten that a word holds: one division by it tells the most digits.
	chunk       = 10_000_000_000_000_000_000
	chunkDigits = 19
)

// Of: the number n.
func Of(n uint64) []uint64 {
	if n == 0 {
		return nil
	}
	return []uint64{n}
}

// Norm: a, without words 0 at its end.
func Norm(a []uint64) []uint64 {
	return copied(counting(a))
}

// Cmp: -1, 0, 1, as a is less than b, the same, greater.
func Cmp(a, b []uint64) int {
	x, y := counting(a), counting(b)
	if len(x) != len(y) {
		return sign(len(x) < len(y))
	}
	for i := len(x) - 1; i >= 0; i-- {
		if x[i] != y[i] {
			return sign(x[i] < y[i])
		}
	}
	return 0
}

// Add: the sum.
func Add(a, b []uint64) ([]uint64, bool) {
	x, y, ok := fittingPair(a, b)
	if !ok {
		return nil, false
	}
	if len(x) < len(y) {
		x, y = y, x
	}
	sum := make([]uint64, len(x)+1)
	var carry uint64
	for i, w := range x {
		sum[i], carry = bits.Add64(w, wordAt(y, i), carry)
	}
	sum[len(x)] = carry
	return fitting(sum)
}

// Sub: a less b.
func Sub(a, b []uint64) ([]uint64, bool) {
	x, y, ok := fittingPair(a, b)
	if !ok || Cmp(x, y) < 0 {
		return nil, false
	}
	rest := make([]uint64, len(x))
	var borrow uint64
	for i, w := range x {
		rest[i], borrow = bits.Sub64(w, wordAt(y, i), borrow)
	}
	return fitting(rest)
}

// Mul: the product.
func Mul(a, b []uint64) ([]uint64, bool) {
	x, y, ok := fittingPair(a, b)
	if !ok {
		return nil, false
	}
	product := make([]uint64, len(x)+len(y))
	for i, w := range x {
		end := i + len(y)
		product[end] = addTimes(product[i:end], y, w)
	}
	return fitting(product)
}

// Div: the quotient of a and m, and the rest.
func Div(a []uint64, m uint64) ([]uint64, uint64, bool) {
	x, ok := fitting(a)
	if !ok || m == 0 {
		return nil, 0, false
	}
	quotient := copied(x)
	rest := divide(quotient, m)
	return counting(quotient), rest, true
}

// Shift: a times 2 to k.
func Shift(a []uint64, k int) ([]uint64, bool) {
	x, ok := fitting(a)
	if !ok || k < 0 {
		return nil, false
	}
	if len(x) == 0 {
		return nil, true
	}
	// Asked ahead of making the list, whose length would else hang on any k.
	if k >= wordBits*api.MaxWords {
		return nil, false
	}
	whole, part := k/wordBits, k%wordBits
	shifted := make([]uint64, whole+len(x)+1)
	shifted[whole+len(x)] = addTimes(shifted[whole:whole+len(x)], x, 1<<part)
	return fitting(shifted)
}

// Text: the decimal digits of a.
func Text(a []uint64) (string, bool) {
	x, ok := fitting(a)
	if !ok {
		return "", false
	}
	if len(x) == 0 {
		return "0", true
	}
	var parts []string
	for left := copied(x); len(left) > 0; {
		rest := divide(left, chunk)
		left = counting(left)
		digits := strconv.FormatUint(rest, 10)
		if len(left) > 0 {
			digits = strings.Repeat("0", chunkDigits-len(digits)) + digits
		}
		parts = append(parts, digits)
	}
	slices.Reverse(parts)
	return strings.Join(parts, ""), true
}

// Parse: the number whose decimal digits are s.
func Parse(s string) ([]uint64, bool) {
	if !isWritten(s) {
		return nil, false
	}
	var x []uint64
	for i := range len(s) {
		x = appendDigit(x, uint64(s[i]-'0'))
		// Asked at each digit, so that a text of any length is soon done with.
		if len(x) > api.MaxWords {
			return nil, false
		}
	}
	return x, true
}

// counting: the words of a that count, in a's own memory.
func counting(a []uint64) []uint64 {
	n := len(a)
	for n > 0 && a[n-1] == 0 {
		n--
	}
	return a[:n]
}

// copied: a in memory of its own; a Clone of an empty list would still point into a.
func copied(a []uint64) []uint64 {
	return append([]uint64(nil), a...)
}

// fitting: the words of a that count, in a's own memory; false if a is too great.
func fitting(a []uint64) ([]uint64, bool) {
	x := counting(a)
	if len(x) > api.MaxWords {
		return nil, false
	}
	return x, true
}

// fittingPair: as fitting, of two.
func fittingPair(a, b []uint64) ([]uint64, []uint64, bool) {
	x, okX := fitting(a)
	y, okY := fitting(b)
	return x, y, okX && okY
}

// sign: what Cmp tells of two that differ.
func sign(less bool) int {
	if less {
		return -1
	}
	return 1
}

// wordAt: the word i of a, which is 0 behind its end.
func wordAt(a []uint64, i int) uint64 {
	if i < len(a) {
		return a[i]
	}
	return 0
}

// timesPlus: w * m + p + q, which two words always hold.
func timesPlus(w, m, p, q uint64) (high, low uint64) {
	high, low = bits.Mul64(w, m)
	low, carry := bits.Add64(low, p, 0)
	high += carry
	low, carry = bits.Add64(low, q, 0)
	return high + carry, low
}

// addTimes adds y times m to as many words of sum, and tells the carry.
func addTimes(sum, y []uint64, m uint64) uint64 {
	var carry uint64
	for i, w := range y {
		carry, sum[i] = timesPlus(w, m, sum[i], carry)
	}
	return carry
}

// divide makes x its quotient by m, which isn't 0, and tells the rest.
func divide(x []uint64, m uint64) uint64 {
	var rest uint64
	for i := len(x) - 1; i >= 0; i-- {
		x[i], rest = bits.Div64(rest, x[i], m)
	}
	return rest
}

// appendDigit makes x ten times x and the digit, with one word more if need be.
func appendDigit(x []uint64, digit uint64) []uint64 {
	carry := digit
	for i, w := range x {
		carry, x[i] = timesPlus(w, 10, 0, carry)
	}
	if carry > 0 {
		x = append(x, carry)
	}
	return x
}

// isWritten tells whether s is what Text may tell: digits, without noughts ahead.
func isWritten(s string) bool {
	if s == "" || s[0] == '0' && len(s) > 1 {
		return false
	}
	for i := range len(s) {
		if s[i] < '0' || s[i] > '9' {
			return false
		}
	}
	return true
}
