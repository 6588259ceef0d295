package order_test

import (
	"slices"

	"savant/api"
)

// groupsAsTold goes by the chapter's words, to the letter.
func groupsAsTold(uses [][]int) ([][]int, api.Errno) {
	if len(uses) > 500 {
		return nil, api.ErrArg
	}
	for _, l := range uses {
		for _, y := range l {
			if !(0 <= y && y < len(uses)) {
				return nil, api.ErrArg
			}
		}
	}
	does := usesAtLast(uses)
	isOfOne := func(x, y int) bool { return x == y || does[x][y] && does[y][x] }
	told := make([]bool, len(uses))
	// A thing's group may be next, if all that any of it uses is told, or of it.
	mayBeNext := func(x int) bool {
		for y := range uses {
			if !isOfOne(x, y) {
				continue
			}
			for _, z := range uses[y] {
				if !told[z] && !isOfOne(x, z) {
					return false
				}
			}
		}
		return true
	}
	var groups [][]int
	for {
		// The first thing that is not told, and may be next, is the least number of its group.
		next := -1
		for x := len(uses) - 1; x >= 0; x-- {
			if !told[x] && mayBeNext(x) {
				next = x
			}
		}
		if next < 0 {
			return groups, api.OK
		}
		var group []int
		for y := range uses {
			if isOfOne(next, y) {
				group = append(group, y)
				told[y] = true
			}
		}
		groups = append(groups, group)
	}
}

// usesAtLast tells of each two things whether the one uses the other one, itself or by what it uses, and so on.
func usesAtLast(uses [][]int) [][]bool {
	does := make([][]bool, len(uses))
	for x, l := range uses {
		does[x] = make([]bool, len(uses))
		for _, y := range l {
			does[x][y] = true
		}
	}
	for by := range uses {
		for x := range uses {
			if does[x][by] {
				for y, is := range does[by] {
					does[x][y] = does[x][y] || is
				}
			}
		}
	}
	return does
}

// isBehindItsUses tells whether each thing is in one group, and what it uses in an earlier one or in the same.
func isBehindItsUses(uses, groups [][]int) bool {
	home := map[int]int{}
	for g, l := range groups {
		if len(l) == 0 {
			return false
		}
		for _, x := range l {
			if _, again := home[x]; again || x < 0 || x >= len(uses) {
				return false
			}
			home[x] = g
		}
	}
	for x, l := range uses {
		if slices.ContainsFunc(l, func(y int) bool { return home[y] > home[x] }) {
			return false
		}
	}
	return len(home) == len(uses)
}
