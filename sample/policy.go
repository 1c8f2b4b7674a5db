package sample

import (
	"slices"

	"trustflow/api"
)

// Policy returns a policy that is valid for graphs of a size, which is at least 1: mostly with few seeds, and with tables of all lengths. pick(n) chooses a number from 0 to n - 1.
func Policy(size int, pick func(n int) int) api.Policy {
	p := api.Policy{Level: 1 + pick(api.MaxLevel)}
	sure := pick(size)
	for key := range size {
		if key == sure || pick(6) == 0 {
			p.Seeds = append(p.Seeds, key)
		}
	}
	capacity := 1 + pick(7)
	for range 1 + pick(api.MaxTable) {
		p.Table = append(p.Table, capacity)
		capacity = max(1, capacity-pick(3))
	}
	return p
}

// WildPolicies returns policies that are not valid for graphs of 4 keys, each for one reason.
func WildPolicies() map[string]api.Policy {
	seeds := func(l ...int) api.Policy { return api.Policy{Seeds: l, Table: []int{3, 2}, Level: 1} }
	table := func(l ...int) api.Policy { return api.Policy{Seeds: []int{0, 2}, Table: l, Level: 1} }
	level := func(n int) api.Policy { return api.Policy{Seeds: []int{0, 2}, Table: []int{3, 2}, Level: n} }
	return map[string]api.Policy{
		"no seeds":                 seeds(),
		"seeds that fall":          seeds(2, 1),
		"only the last seeds fall": seeds(0, 3, 2),
		"a seed twice":             seeds(1, 1),
		"the last seed twice":      seeds(0, 2, 2),
		"a seed that is negative":  seeds(-1, 0),
		"too great a seed":         seeds(0, 4),
		"no table":                 table(),
		"too long a table":         table(slices.Repeat([]int{1}, api.MaxTable+1)...),
		"no capacity":              table(0),
		"no capacity at the end":   table(3, 2, 0),
		"a capacity below 0":       table(2, -1),
		"too great a capacity":     table(api.MaxCapacity+1, 1),
		"a table that rises":       table(2, 3),
		"a table that rises later": table(3, 2, 2, 3),
		"no level":                 level(0),
		"a level below 0":          level(-1),
		"too great a level":        level(api.MaxLevel + 1),
	}
}

// KeepsPolicy calls f with a copy of p, behind whose lists there is room with somebody else's numbers, and reports whether f changes none of this.
func KeepsPolicy(p api.Policy, f func(p api.Policy)) bool {
	keepsTable := false
	keepsSeeds := KeepsNumbers(p.Seeds, func(seeds []int) {
		keepsTable = KeepsNumbers(p.Table, func(table []int) { f(api.Policy{Seeds: seeds, Table: table, Level: p.Level}) })
	})
	return keepsSeeds && keepsTable
}

// KeepsAll calls f with copies of a graph, a policy and numbers, behind whose lists there is room with somebody else's numbers, and reports whether f changes none of this.
func KeepsAll(g api.Graph, p api.Policy, l []int, f func(g api.Graph, p api.Policy, l []int)) bool {
	keepsPolicy, keepsNumbers := false, false
	keepsGraph := Keeps(g, func(g api.Graph) {
		keepsPolicy = KeepsPolicy(p, func(p api.Policy) {
			keepsNumbers = KeepsNumbers(l, func(l []int) { f(g, p, l) })
		})
	})
	return keepsGraph && keepsPolicy && keepsNumbers
}
