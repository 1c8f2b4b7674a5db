package sample

import "slices"

// Numbers returns the numbers from 0 to n - 1.
func Numbers(n int) []int {
	var l []int
	for i := range n {
		l = append(l, i)
	}
	return l
}

// KeepsNumbers calls f with a copy of l, behind which there is room with somebody else's numbers, and reports whether f changes none of this.
func KeepsNumbers(l []int, f func(l []int)) bool {
	all := append(slices.Clone(l), -7, -8)
	before := slices.Clone(all)
	f(all[:len(l)])
	return slices.Equal(all, before)
}
