// Package sat is layer 1: numbers that end. See shared/doc/01-sat.md.
package sat

import (
	"strings"

	"bocage/api"
)

// The ends of all numbers.
const (
	Least    = -1 << 63
	Greatest = 1<<63 - 1
)

// Add is a + b, or the end beyond which that would be.
func Add(a, b int64) int64 {
	sum := a + b
	// A sum that wrapped round lies on the wrong side of a: that is how it is known.
	switch {
	case b > 0 && sum < a:
		return Greatest
	case b < 0 && sum > a:
		return Least
	}
	return sum
}

// Sub is a - b, or the end beyond which that would be. (Not Add(a, Neg(b)): Neg(Least) has lost a 1 already.)
func Sub(a, b int64) int64 {
	rest := a - b
	switch {
	case b > 0 && rest > a:
		return Least
	case b < 0 && rest < a:
		return Greatest
	}
	return rest
}

// Neg is -a, or Greatest of Least.
func Neg(a int64) int64 { return Sub(0, a) }

// Sum is Add of all of l, one behind the other, from 0 on. (The order counts: an end that was met on the way is gone on from.)
func Sum(l []int64) int64 {
	var sum int64
	for _, n := range l {
		sum = Add(sum, n)
	}
	return sum
}

// Ceil is the least multiple of step that is not below n; false, if step is below 1, or that is no number.
func Ceil(n, step int64) (int64, bool) {
	if step < 1 {
		return 0, false
	}
	// The rest has n's sign: below 0 the next multiple is on the way to 0, and is always a number.
	rest := n % step
	if rest <= 0 {
		return n - rest, true
	}
	up := step - rest
	if n > Greatest-up {
		return 0, false
	}
	return n + up, true
}

// longestText is how many bytes Least has, the number with the longest text.
const longestText = 20

// Text is the number in decimal digits, with - ahead of one below 0.
func Text(n int64) string {
	rest := size(n)
	takeOff := func() byte {
		sign := '0' + byte(rest%10)
		rest /= 10
		return sign
	}
	var signs [longestText]byte
	at := longestText - 1
	signs[at] = takeOff() // 0, too, has one digit
	for rest > 0 {
		at--
		signs[at] = takeOff()
	}
	if n < 0 {
		at--
		signs[at] = '-'
	}
	return string(signs[at:])
}

// size is how far n is from 0: as a uint64, for that of Least is no int64.
func size(n int64) uint64 {
	if n < 0 {
		return -uint64(n)
	}
	return uint64(n)
}

// Read is the number whose text is the longest such beginning of s, and how many bytes that has; 0 and 0, if there is none.
func Read(s string) (int64, int) {
	digits, below := strings.CutPrefix(s, "-")
	if !below {
		n, long := readDigits(digits, Greatest)
		return int64(n), long
	}
	n, long := readDigits(digits, size(Least))
	if n == 0 { // no digits at all, or -0, which is no number's text
		return 0, 0
	}
	return int64(-n), long + 1
}

// readDigits reads as many digits at the beginning of s as make one number's text, of at most most, and tells how many.
func readDigits(s string, most uint64) (uint64, int) {
	var n uint64
	takeOff := func(sign byte) bool {
		if sign < '0' || sign > '9' {
			return false
		}
		digit := uint64(sign - '0')
		if n > (most-digit)/10 {
			return false
		}
		n = 10*n + digit
		return true
	}
	for i := range len(s) {
		leadingNought := i == 1 && n == 0
		if leadingNought || !takeOff(s[i]) {
			return n, i
		}
	}
	return n, len(s)
}

// Parse is the number whose text s is; ErrSatForm, if there is none.
func Parse(s string) (int64, api.Errno) {
	n, long := Read(s)
	if long == 0 || long < len(s) {
		return 0, api.ErrSatForm
	}
	return n, api.OK
}
