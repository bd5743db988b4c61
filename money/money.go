// Package money is layer 1: see shared/doc/01-money.md.
package money

import (
	"math"
	"math/bits"
	"strconv"
	"strings"

	"bursar/api"
)

// Add is a sum.
func Add(a, b int64) (int64, api.Errno) {
	sum := a + b
	// The sum goes around just where it lies on the wrong side of a.
	if (sum >= a) != (b >= 0) {
		return 0, api.ErrOver
	}
	return sum, api.OK
}

// Sub is a difference.
func Sub(a, b int64) (int64, api.Errno) {
	// Not Add(a, -b): the least amount has no opposite.
	difference := a - b
	if (difference <= a) != (b >= 0) {
		return 0, api.ErrOver
	}
	return difference, api.OK
}

// Times is a product.
func Times(a int64, n int) (int64, api.Errno) {
	over, product := bits.Mul64(size(a), size(int64(n)))
	if over != 0 {
		return 0, api.ErrOver
	}
	return signed(product, (a < 0) != (n < 0))
}

// Sum is the sum of all.
func Sum(l ...int64) (int64, api.Errno) {
	// Sums of some may be no amount while that of all is one: so the sum goes
	// around, and what counts is whether it has come back in the end.
	sum, laps := int64(0), 0
	for _, a := range l {
		next := sum + a
		if a > 0 && next < sum {
			laps++
		}
		if a < 0 && next > sum {
			laps--
		}
		sum = next
	}
	if laps != 0 {
		return 0, api.ErrOver
	}
	return sum, api.OK
}

// Share is an amount in parts.
func Share(a int64, n int) ([]int64, api.Errno) {
	if n < 1 || n > api.MaxShares {
		return nil, api.ErrArg
	}
	// The quotient is cut toward 0, so the rest has a's sign, and each unit of
	// it takes a share farther from 0.
	each, rest := a/int64(n), a%int64(n)
	shares := make([]int64, n)
	for i := range n {
		unit := signOf(rest)
		shares[i] = each + unit
		rest -= unit
	}
	return shares, api.OK
}

// Text is an amount's text.
func Text(a int64) string {
	units := size(a)
	text := strconv.FormatUint(units/100, 10) + "." + twoDigits(units%100)
	if a < 0 {
		return "-" + text
	}
	return text
}

// Parse is a text's amount.
func Parse(s string) (int64, api.Errno) {
	body, below := strings.CutPrefix(s, "-")
	hundreds, units, _ := strings.Cut(body, ".")
	number, err := strconv.ParseUint(hundreds+units, 10, 64)
	if err != nil {
		return 0, api.ErrForm
	}
	a, e := signed(number, below)
	// An amount has one text: what only reads like one (01.00, -0.00, 1) is none.
	if e != api.OK || Text(a) != s {
		return 0, api.ErrForm
	}
	return a, api.OK
}

// size is an amount without its sign. It is unsigned, since the least amount's
// size is no amount.
func size(a int64) uint64 {
	if a < 0 {
		return -uint64(a)
	}
	return uint64(a)
}

// signed is the amount of a size, below 0 or not.
func signed(units uint64, below bool) (int64, api.Errno) {
	if below && units <= 1<<63 {
		return int64(-units), api.OK
	}
	if units <= math.MaxInt64 && !below {
		return int64(units), api.OK
	}
	return 0, api.ErrOver
}

// signOf is 1, 0 or -1, as an amount is above, at or below 0.
func signOf(a int64) int64 {
	if a > 0 {
		return 1
	}
	if a < 0 {
		return -1
	}
	return 0
}

// twoDigits is a number below 100 in two digits.
func twoDigits(n uint64) string {
	if n < 10 {
		return "0" + strconv.FormatUint(n, 10)
	}
	return strconv.FormatUint(n, 10)
}
