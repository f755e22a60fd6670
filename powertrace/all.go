package powertrace

import (
	"iter"
	"slices"

	"trickle/api"
)

const maxCount = int64(1) << 62

// All returns an iterator over every schedule of up to so many failures, with energies from 0 to most and the same
// off time: by the number of failures, then in lexicographic order of the energies.
func All(failures, most int, off int64) iter.Seq[[]api.Period] {
	return func(yield func([]api.Period) bool) {
		if !validPeriod(api.Period{Energy: most, Off: off}) {
			return
		}
		for n := 0; n <= failures; n++ {
			for l := range ofLength(n, most, off) {
				if !yield(l) {
					return
				}
			}
		}
	}
}

// ofLength returns an iterator over those of them that have n periods.
func ofLength(n, most int, off int64) iter.Seq[[]api.Period] {
	return func(yield func([]api.Period) bool) {
		l := slices.Repeat([]api.Period{{Off: off}}, n)
		for more := true; more; more = advance(l, most) {
			// The consumer may change what it receives.
			if !yield(slices.Clone(l)) {
				return
			}
		}
	}
}

// advance turns a schedule into the next one of its length, and reports whether there is one.
func advance(l []api.Period, most int) bool {
	for i := len(l) - 1; i >= 0; i-- {
		if l[i].Energy < most {
			l[i].Energy++
			return true
		}
		l[i].Energy = 0
	}
	return false
}

// Count returns how many schedules All yields, and at most 2^62.
func Count(failures, most int) int64 {
	if failures < 0 || !validEnergy(most) {
		return 0
	}
	if most == 0 {
		// One schedule of each length: the loop below would take too many steps until it reaches the limit.
		return min(int64(failures), maxCount-1) + 1
	}
	energies := int64(most) + 1
	count := int64(1)
	for range failures {
		if count > (maxCount-1)/energies {
			return maxCount
		}
		// With one failure more, a schedule is empty, or one of the energies ahead of a schedule counted so far.
		count = count*energies + 1
	}
	return count
}
