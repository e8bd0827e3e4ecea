// Package words is layer 1: bits of a word and packed keys. See shared/doc/01-words.md.
package words

import (
	"math/bits"

	"worksteal/api"
)

// wordBits is the number of bits of a word.
const wordBits = 64

// A key holds the deadline above the arrival number above the task, so that keys compare as numbers in this order.
const (
	taskBits      = 16
	arrivalBits   = 24
	arrivalShift  = taskBits
	deadlineShift = taskBits + arrivalBits
	maxTask       = 1<<taskBits - 1
)

// High returns the greatest number of a bit of x that is 1, or -1.
func High(x uint64) int { return bits.Len64(x) - 1 }

// Low returns the least number of a bit of x that is 1, or -1.
func Low(x uint64) int {
	if x == 0 {
		return -1
	}
	return bits.TrailingZeros64(x)
}

// Count returns how many bits of x are 1.
func Count(x uint64) int { return bits.OnesCount64(x) }

// Nth returns the number of the n-th bit that is 1, or -1.
func Nth(x uint64, n int) int {
	if n < 0 {
		return -1
	}
	for i := range wordBits {
		if x>>i&1 == 0 {
			continue
		}
		if n == 0 {
			return i
		}
		n--
	}
	return -1
}

// Span returns the word whose bits from low to high - 1 are 1.
func Span(low, high int) uint64 { return below(high) &^ below(low) }

// below returns the word whose bits less than n are 1, as far as they exist.
func below(n int) uint64 {
	n = min(max(n, 0), wordBits)
	// For n = 64 the shift gives 0, and the subtraction wraps around to all bits.
	return uint64(1)<<n - 1
}

// Class returns the class of a level, or 0 for numbers outside their limits.
func Class(level, levels, classes int) int {
	if levels < 1 || levels > api.MaxLevels || classes < 1 || classes > api.MaxClasses {
		return 0
	}
	if level < 0 || level >= levels {
		return 0
	}
	return level * classes / levels
}

// Pack returns the key of three numbers, and whether there is one.
func Pack(deadline, arrival, task int) (uint64, bool) {
	if deadline < 0 || deadline > api.MaxDeadline {
		return 0, false
	}
	if arrival < 0 || arrival > api.MaxArrival {
		return 0, false
	}
	if task < 0 || task > maxTask {
		return 0, false
	}
	return uint64(deadline)<<deadlineShift | uint64(arrival)<<arrivalShift | uint64(task), true
}

// Unpack returns the three numbers of a key.
func Unpack(k uint64) (deadline, arrival, task int) {
	// The first shift drops the bits of the deadline, the second one those of the task.
	arrival = int(k << (wordBits - deadlineShift) >> (wordBits - arrivalBits))
	return int(k >> deadlineShift), arrival, int(uint16(k))
}
