package csr

import (
	"math"
	"slices"

	"portolan/api"
)

// Meet are the numbers that stand in each of some rising lists.
func Meet(l [][]int) ([]int, api.Errno) {
	if len(l) == 0 {
		return nil, api.ErrArg
	}
	for _, list := range l {
		if !rises(list) {
			return nil, api.ErrCsrOrder
		}
	}
	return common(l), api.OK
}

// rises tells whether each number is above the one ahead of it.
func rises(list []int) bool {
	for i := range len(list) - 1 {
		if list[i] >= list[i+1] {
			return false
		}
	}
	return true
}

// common goes through one or more rising lists side by side. In a round each of them is led on to the number at which the one ahead of it stands, or the next one above: so that these numbers do not fall from list to list, and all are alike if the first and the last one are.
func common(l [][]int) []int {
	var met []int
	rest := slices.Clone(l) // what of each list is still to be gone through
	low := math.MinInt      // no number below it is still to be met
	for {
		for i := range rest {
			rest[i] = rest[i][countBelow(rest[i], low):]
			if len(rest[i]) == 0 {
				goto through
			}
			low = rest[i][0]
		}
		if rest[0][0] == low {
			met = append(met, low)
			rest[0] = rest[0][1:]
		}
	}
through:
	return met
}

// countBelow is how many numbers of a rising list are below one. Its steps double, so that the numbers that are near are found soon, however long the list is.
func countBelow(list []int, n int) int {
	known, reach := 0, 1 // so many are known to be below n; so many would be next
	for reach <= len(list) && list[reach-1] < n {
		known, reach = reach, 2*reach
	}
	more, _ := slices.BinarySearch(list[known:min(reach, len(list))], n)
	return known + more
}
