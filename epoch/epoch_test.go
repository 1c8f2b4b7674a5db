package epoch

import (
	"math"
	"slices"
	"testing"

	"trustflow/api"
)

// P9.1: times in epochs of several lengths, also at their ends, and times and lengths that are none.
func TestOf(t *testing.T) {
	for _, c := range []struct{ time, length, want int }{
		{10, 5, 2}, // the chapter's example
		{0, 5, 0}, {4, 5, 0}, {5, 5, 1}, {9, 5, 1}, {14, 5, 2}, {15, 5, 3},
		{0, 1, 0}, {1, 1, 1}, {7, 1, 7},
		{3, 7, 0}, {6, 7, 0}, {7, 7, 1}, {8, 7, 1},
		{api.MaxTime, 1, api.MaxTime}, {api.MaxTime, api.MaxTime, 1}, {api.MaxTime - 1, api.MaxTime, 0},
		{api.MaxTime, api.MaxSpan, 2147}, {api.MaxTime + 1, 2, 1 << 30},
		{math.MaxInt, 1, math.MaxInt}, {math.MaxInt, math.MaxInt, 1}, {math.MaxInt - 1, math.MaxInt, 0}, {0, math.MaxInt, 0}, {math.MaxInt, 2, math.MaxInt >> 1},
		{-1, 5, -1}, {-5, 5, -1}, {-10, 5, -1}, {-1, 1, -1}, {-7, 2, -1}, {math.MinInt, 1, -1}, {math.MinInt, math.MaxInt, -1},
		{10, 0, -1}, {10, -1, -1}, {10, -5, -1}, {0, 0, -1}, {0, -1, -1}, {math.MaxInt, math.MinInt, -1},
		{-10, -5, -1}, {-1, 0, -1}, {-1, -1, -1}, {math.MinInt, -1, -1}, {math.MinInt, math.MinInt, -1},
	} {
		if got := Of(c.time, c.length); got != c.want {
			t.Errorf("the epoch of %d in lengths of %d is %d, want %d", c.time, c.length, got, c.want)
		}
	}
}

// P9.1: each epoch has as many times as it is long, one behind the other.
func TestOfCounts(t *testing.T) {
	for length := 1; length < 9; length++ {
		time := 0
		for number := range 9 {
			for range length {
				if got := Of(time, length); got != number {
					t.Errorf("the epoch of %d in lengths of %d is %d, want %d", time, length, got, number)
				}
				time++
			}
		}
	}
}

// P9.2: what was made until a time, the time itself included, in the order of the list, which is not that of the times.
func TestUntil(t *testing.T) {
	l := times(5, 2, 9, 5, 0, 7, 2)
	for time, places := range map[int][]int{
		-1: nil,
		0:  {4},
		1:  {4},
		2:  {1, 4, 6},
		4:  {1, 4, 6},
		5:  {0, 1, 3, 4, 6},
		6:  {0, 1, 3, 4, 6},
		7:  {0, 1, 3, 4, 5, 6},
		8:  {0, 1, 3, 4, 5, 6},
		9:  {0, 1, 2, 3, 4, 5, 6},
		10: {0, 1, 2, 3, 4, 5, 6},
	} {
		expectUntil(t, l, time, chosen(l, places))
	}
	expectUntil(t, nil, 5, nil)
	expectUntil(t, times(6), 5, nil)
}

// P9.2: what was made from a time to another one, both included, in the order of the list; nothing if they are the wrong way round.
func TestWindow(t *testing.T) {
	l := times(5, 2, 9, 5, 0, 7, 2)
	for _, c := range []struct {
		from, to int
		places   []int
	}{
		{0, 9, []int{0, 1, 2, 3, 4, 5, 6}},
		{-3, 20, []int{0, 1, 2, 3, 4, 5, 6}},
		{1, 8, []int{0, 1, 3, 5, 6}},
		{2, 7, []int{0, 1, 3, 5, 6}},
		{2, 5, []int{0, 1, 3, 6}},
		{3, 5, []int{0, 3}},
		{5, 5, []int{0, 3}},
		{5, 6, []int{0, 3}},
		{0, 0, []int{4}},
		{9, 9, []int{2}},
		{3, 4, nil},
		{8, 8, nil},
		{-9, -1, nil},
		{10, 99, nil},
		{5, 4, nil},
		{9, 0, nil},
	} {
		expectWindow(t, l, c.from, c.to, chosen(l, c.places))
	}
	expectWindow(t, nil, 0, 9, nil)
}

// P9.2: by time before by author, by author before by number, by number before the order of the list.
func TestOrder(t *testing.T) {
	for name, l := range map[string][]api.Statement{
		"nothing":                      nil,
		"one":                          {at(5, 1, 1, 1)},
		"the time before the author":   {at(1, 9, 0, 0), at(2, 3, 0, 0)},
		"the time before the number":   {at(1, 3, 9, 0), at(2, 3, 1, 0)},
		"the author":                   {at(1, 3, 0, 0), at(1, 9, 0, 0)},
		"the author before the number": {at(1, 3, 9, 0), at(1, 9, 1, 0)},
		"the number":                   {at(1, 3, 2, 9), at(1, 3, 10, 1)},
		"numbers that are none":        {at(-7, 5, 5, 0), at(-1, -3, 9, 0), at(-1, -1, -2, 0), at(-1, -1, -1, 0), at(0, -9, 0, 0)},
		"far":                          {at(math.MinInt, 0, 0, 0), at(math.MaxInt, math.MinInt, 0, 0), at(math.MaxInt, math.MaxInt, math.MinInt, 0), at(math.MaxInt, math.MaxInt, math.MaxInt, 0)},
	} {
		other := slices.Clone(l)
		slices.Reverse(other)
		expectList(t, name, l, Order, l)
		expectList(t, name, other, Order, l)
	}
}

// P9.2: statements with the same time, author and number stay as they were, whatever else they say, also if there are many; copies stay too.
func TestOrderLeavesTheRest(t *testing.T) {
	l := []api.Statement{at(1, 1, 1, 5), at(1, 1, 1, 9), at(1, 1, 1, 2), at(1, 1, 1, 9)}
	l[1].Kind, l[2].Prev = api.KindResign, "a"
	expectList(t, "faces", l, Order, l)
	var mixed, want []api.Statement
	for i := range 300 {
		mixed = append(mixed, at(1+i%3, 2, 4, 300-i))
	}
	for time := 1; time < 4; time++ {
		for i := time - 1; i < 300; i += 3 {
			want = append(want, mixed[i])
		}
	}
	expectList(t, "many", mixed, Order, want)
}

// P9.2: the greatest time, wherever it stands, of negative ones too; -1 of nothing.
func TestLatest(t *testing.T) {
	for _, c := range []struct {
		times []int
		want  int
	}{
		{nil, -1},
		{[]int{}, -1},
		{[]int{0}, 0},
		{[]int{4}, 4},
		{[]int{9, 4, 5}, 9},
		{[]int{4, 9, 5}, 9},
		{[]int{4, 5, 9}, 9},
		{[]int{4, 4}, 4},
		{[]int{0, 0, 0}, 0},
		{[]int{-1}, -1},
		{[]int{-5}, -5},
		{[]int{-5, -3, -9}, -3},
		{[]int{-5, 0}, 0},
		{[]int{api.MaxTime, 7}, api.MaxTime},
		{[]int{math.MinInt}, math.MinInt},
		{[]int{math.MinInt, math.MaxInt, 0}, math.MaxInt},
	} {
		expectLatest(t, times(c.times...), c.want)
	}
}

// P9.2: the time alone decides, not the author or the number, and statements need not be well formed or sealed; all their fields are returned.
func TestWholeStatements(t *testing.T) {
	s := api.Statement{Author: 99, Number: -4, Prev: "x", Time: 5, Kind: 77, A: -1, B: -2, C: -3, List: []int{-1}, Pins: []api.Pin{{Author: 7}}, Body: "b", Seal: api.Seal{Key: 8, Digest: "d"}}
	l := []api.Statement{s}
	for _, got := range [][]api.Statement{Until(l, 5), Window(l, 5, 5), Order(l)} {
		if !isList(got, l) {
			t.Errorf("%v is not %v", got, l)
		}
	}
}

// chosen are the elements of a list at some places.
func chosen(l []api.Statement, places []int) []api.Statement {
	var out []api.Statement
	for _, i := range places {
		out = append(out, l[i])
	}
	return out
}
