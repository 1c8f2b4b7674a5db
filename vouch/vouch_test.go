package vouch

import (
	"math"
	"slices"
	"testing"

	"trustflow/api"
	"trustflow/sample"
)

// P10.1: what a vouch says, and what is none.
func TestOfSays(t *testing.T) {
	expectOf(t, nil, nil)
	for _, c := range []struct {
		row  []api.Statement
		want []api.Vouch
	}{
		{sample.Write(2, sample.Vouch(7, 5, 3, 100)), []api.Vouch{{From: 2, To: 5, Level: 3, Number: 0, Time: 7, End: 100, Revoked: -1}}},
		{sample.Write(0, sample.Other(0, 9, 1, 2), sample.Vouch(0, 1, 1, 0)), []api.Vouch{{From: 0, To: 1, Level: 1, Number: 1, Time: 0, End: 0, Revoked: -1}}},
		{sample.Write(63, sample.Vouch(api.MaxTime, 62, 2, api.MaxTime)), []api.Vouch{{From: 63, To: 62, Level: 2, Number: 0, Time: api.MaxTime, End: api.MaxTime, Revoked: -1}}},
		{sample.Write(3, sample.Other(4, 5, 1, 9), sample.Revoke(5, 0), sample.Resign(6)), nil},
	} {
		expectOf(t, counted(t, c.row), c.want)
	}
}

// P10.1: other kinds are no vouches, whatever else they are.
func TestOfKinds(t *testing.T) {
	for kind := -1; kind <= api.MaxKind+1; kind++ {
		var want []api.Vouch
		if kind == api.KindVouch {
			want = []api.Vouch{{From: 2, To: 5, Level: 1, Number: 0, Time: 7, End: 100, Revoked: -1}}
		}
		expectOf(t, []api.Statement{{Author: 2, Time: 7, Kind: kind, A: 5, B: 1, C: 100}}, want)
	}
}

// P10.1: by From before To, by To before Number, all as numbers; also what has ended, was revoked, was given again or is of or for somebody who has left.
func TestOfOrder(t *testing.T) {
	l := counted(t,
		sample.Write(10, sample.Vouch(1, 9, 1, 2), sample.Vouch(1, 2, 2, 9), sample.Vouch(1, 9, 3, 9), sample.Vouch(2, 30, 1, 9), sample.Vouch(2, 2, 1, 9), sample.Resign(3)),
		sample.Write(9, sample.Resign(0)),
		sample.Write(3, sample.Vouch(8, 63, 1, 9), sample.Vouch(8, 0, 1, 9)),
	)
	expectOf(t, l, []api.Vouch{
		{From: 3, To: 0, Level: 1, Number: 1, Time: 8, End: 9, Revoked: -1},
		{From: 3, To: 63, Level: 1, Number: 0, Time: 8, End: 9, Revoked: -1},
		{From: 10, To: 2, Level: 2, Number: 1, Time: 1, End: 9, Revoked: -1},
		{From: 10, To: 2, Level: 1, Number: 4, Time: 2, End: 9, Revoked: -1},
		{From: 10, To: 9, Level: 1, Number: 0, Time: 1, End: 2, Revoked: -1},
		{From: 10, To: 9, Level: 3, Number: 2, Time: 1, End: 9, Revoked: -1},
		{From: 10, To: 30, Level: 1, Number: 3, Time: 2, End: 9, Revoked: -1},
	})
}

// P10.1: when a vouch was revoked: by its own author, by its number, later, for the first time.
func TestOfRevoked(t *testing.T) {
	vouch := sample.Vouch(5, 9, 1, 20)
	for name, c := range map[string]struct {
		rows [][]api.Statement
		want []int // of each vouch, by author and number
	}{
		"once":                        {[][]api.Statement{sample.Write(1, vouch, sample.Revoke(9, 0))}, []int{9}},
		"at once":                     {[][]api.Statement{sample.Write(1, vouch, sample.Revoke(5, 0))}, []int{5}},
		"at time 0":                   {[][]api.Statement{sample.Write(1, sample.Vouch(0, 9, 1, 9), sample.Revoke(0, 0))}, []int{0}},
		"after its end":               {[][]api.Statement{sample.Write(1, vouch, sample.Revoke(30, 0))}, []int{30}},
		"twice":                       {[][]api.Statement{sample.Write(1, vouch, sample.Revoke(9, 0), sample.Revoke(11, 0))}, []int{9}},
		"not the last one":            {[][]api.Statement{sample.Write(1, vouch, vouch, sample.Revoke(9, 0))}, []int{9, -1}},
		"the last one":                {[][]api.Statement{sample.Write(1, vouch, vouch, sample.Revoke(9, 1))}, []int{-1, 9}},
		"both":                        {[][]api.Statement{sample.Write(1, vouch, vouch, sample.Revoke(8, 1), sample.Revoke(9, 0))}, []int{9, 8}},
		"and given again":             {[][]api.Statement{sample.Write(1, vouch, sample.Revoke(8, 0), sample.Vouch(8, 9, 1, 20))}, []int{8, -1}},
		"far behind":                  {[][]api.Statement{sample.Write(1, sample.Other(1, 0, 0, 0), vouch, sample.Other(6, 1, 0, 0), sample.Vouch(6, 10, 1, 9), sample.Revoke(9, 1))}, []int{9, -1}},
		"a number that is no vouch":   {[][]api.Statement{sample.Write(1, sample.Other(5, 0, 0, 0), vouch, sample.Revoke(9, 0))}, []int{-1}},
		"a number that is not there":  {[][]api.Statement{sample.Write(1, vouch, sample.Revoke(9, 7))}, []int{-1}},
		"its own number":              {[][]api.Statement{sample.Write(1, vouch, sample.Revoke(9, 1))}, []int{-1}},
		"before it was given":         {[][]api.Statement{sample.Write(1, sample.Revoke(3, 1), vouch)}, []int{-1}},
		"before and after":            {[][]api.Statement{sample.Write(1, sample.Revoke(3, 1), vouch, sample.Revoke(7, 1))}, []int{7}},
		"before, at the same time":    {[][]api.Statement{sample.Write(1, sample.Revoke(5, 1), vouch)}, []int{-1}},
		"the key, not the number":     {[][]api.Statement{sample.Write(1, sample.Vouch(5, 2, 1, 20), sample.Other(5, 0, 0, 0), sample.Revoke(9, 2))}, []int{-1}},
		"another one's number before": {[][]api.Statement{sample.Write(0, sample.Vouch(5, 1, 1, 20), sample.Revoke(9, 0)), sample.Write(1, vouch)}, []int{9, -1}},
		"another one's number behind": {[][]api.Statement{sample.Write(1, vouch), sample.Write(2, vouch, sample.Revoke(9, 0))}, []int{-1, 9}},
		"whom it is for":              {[][]api.Statement{sample.Write(1, vouch), sample.Write(9, sample.Other(5, 0, 0, 0), sample.Revoke(9, 0))}, []int{-1}},
		"other kinds":                 {[][]api.Statement{sample.Write(1, vouch, sample.Other(9, 0, 0, 0), sample.Resign(10))}, []int{-1}},
	} {
		vouches := Of(counted(t, c.rows...))
		var got []int
		for _, v := range vouches {
			got = append(got, v.Revoked)
		}
		if !slices.Equal(got, c.want) {
			t.Errorf("%s: revoked at %v, want %v", name, got, c.want)
		}
	}
}

// P10.1: whoever has resigned until a time, the time itself included, once each.
func TestGone(t *testing.T) {
	l := counted(t,
		sample.Write(40, sample.Other(2, 0, 0, 0), sample.Resign(3)),
		sample.Write(9, sample.Vouch(1, 63, 1, 9), sample.Resign(5)),
		sample.Write(63, sample.Resign(0)),
		sample.Write(0, sample.Vouch(0, 9, 1, 9), sample.Revoke(1, 0)),
		sample.Write(10, sample.Resign(5)),
		sample.Write(2, sample.Resign(api.MaxTime)),
	)
	for time, want := range map[int][]int{
		math.MinInt:     nil,
		-1:              nil,
		0:               {63},
		2:               {63},
		3:               {40, 63},
		4:               {40, 63},
		5:               {9, 10, 40, 63},
		6:               {9, 10, 40, 63},
		api.MaxTime - 1: {9, 10, 40, 63},
		api.MaxTime:     {2, 9, 10, 40, 63},
		math.MaxInt:     {2, 9, 10, 40, 63},
	} {
		expectGone(t, l, time, want)
	}
	expectGone(t, nil, 5, nil)
	expectGone(t, counted(t, sample.Write(1, sample.Vouch(0, 9, 1, 9))), 5, nil)
}

// P10.1: a branch goes past a resignation; who resigns twice is gone once, from the first time on.
func TestGoneTwice(t *testing.T) {
	l := slices.Concat(
		sample.Write(3, sample.Resign(2), sample.Other(3, 0, 0, 0), sample.Resign(4), sample.Resign(4)),
		sample.Write(5, sample.Resign(4)),
	)
	for time, want := range [][]int{2: {3}, 3: {3}, 4: {3, 5}, 5: {3, 5}} {
		expectGone(t, l, time, want)
	}
}

// P10.2: from the time of a vouch on, before its end, before it was revoked, and before the author vouches for the same key again.
func TestActive(t *testing.T) {
	vouch := sample.Vouch(5, 9, 1, 20)
	for _, c := range []struct {
		what string
		row  []api.Statement
		from map[int]int // from which time on which vouch holds; -1: none
	}{
		{"the chapter's example", sample.Write(1, vouch, sample.Revoke(9, 0)), map[int]int{5: 0, 9: -1}},
		{"to its end", sample.Write(1, vouch), map[int]int{5: 0, 20: -1}},
		{"from 0 on", sample.Write(1, sample.Vouch(0, 9, 1, 2)), map[int]int{0: 0, 2: -1}},
		{"never", sample.Write(1, sample.Vouch(5, 9, 1, 5)), nil},
		{"once only", sample.Write(1, sample.Vouch(5, 9, 1, 6)), map[int]int{5: 0, 6: -1}},
		{"revoked at once", sample.Write(1, vouch, sample.Revoke(5, 0)), nil},
		{"revoked at its end", sample.Write(1, vouch, sample.Revoke(20, 0)), map[int]int{5: 0, 20: -1}},
		{"revoked after its end", sample.Write(1, vouch, sample.Revoke(25, 0)), map[int]int{5: 0, 20: -1}},
		{"revoked twice", sample.Write(1, vouch, sample.Revoke(9, 0), sample.Revoke(11, 0)), map[int]int{5: 0, 9: -1}},
		{"given again", sample.Write(1, vouch, sample.Vouch(9, 9, 2, 15)), map[int]int{5: 0, 9: 1, 15: -1}},
		{"given again at once", sample.Write(1, vouch, sample.Vouch(5, 9, 2, 15)), map[int]int{5: 1, 15: -1}},
		{"given again, at once ended", sample.Write(1, vouch, sample.Vouch(9, 9, 2, 9)), map[int]int{5: 0, 9: -1}},
		{"given again, soon ended", sample.Write(1, vouch, sample.Vouch(9, 9, 2, 11)), map[int]int{5: 0, 9: 1, 11: -1}},
		{"given again, revoked", sample.Write(1, vouch, sample.Vouch(9, 9, 2, 30), sample.Revoke(12, 1)), map[int]int{5: 0, 9: 1, 12: -1}},
		{"given again, the first one revoked", sample.Write(1, vouch, sample.Vouch(9, 9, 2, 30), sample.Revoke(12, 0)), map[int]int{5: 0, 9: 1, 30: -1}},
		{"revoked, given again", sample.Write(1, vouch, sample.Revoke(7, 0), sample.Vouch(9, 9, 2, 30)), map[int]int{5: 0, 7: -1, 9: 2, 30: -1}},
		{"ended, given again", sample.Write(1, vouch, sample.Vouch(25, 9, 2, 30)), map[int]int{5: 0, 20: -1, 25: 1, 30: -1}},
		{"given three times", sample.Write(1, vouch, sample.Vouch(6, 9, 2, 30), sample.Vouch(7, 9, 3, 10)), map[int]int{5: 0, 6: 1, 7: 2, 10: -1}},
		{"given three times, all revoked", sample.Write(1, vouch, sample.Vouch(6, 9, 2, 30), sample.Vouch(7, 9, 3, 10), sample.Revoke(8, 2), sample.Revoke(8, 1)), map[int]int{5: 0, 6: 1, 7: 2, 8: -1}},
		{"others between", sample.Write(1, vouch, sample.Other(6, 9, 1, 20), sample.Revoke(7, 1), sample.Vouch(8, 9, 1, 20)), map[int]int{5: 0, 8: 3, 20: -1}},
		{"the author resigns", sample.Write(1, vouch, sample.Resign(9)), map[int]int{5: 0, 9: -1}},
		{"the author resigns at once", sample.Write(1, vouch, sample.Resign(5)), nil},
	} {
		l := counted(t, c.row)
		holds := -1
		for time := -1; time < 40; time++ {
			if number, ok := c.from[time]; ok {
				holds = number
			}
			if holds < 0 {
				expectActive(t, l, time, nil)
				expectBetween(t, l, 1, 9, time, api.Vouch{}, false)
				continue
			}
			want := named(t, l, []name{{1, holds}})
			expectActive(t, l, time, want)
			expectBetween(t, l, 1, 9, time, want[0], true)
		}
	}
}

// P10.2: what is active has the level, the end and the revocation of its statement, also one that is still to come.
func TestActiveSays(t *testing.T) {
	l := counted(t, sample.Write(1, sample.Vouch(5, 9, 2, 20), sample.Vouch(6, 3, 3, 8), sample.Revoke(9, 0)))
	first := api.Vouch{From: 1, To: 9, Level: 2, Number: 0, Time: 5, End: 20, Revoked: 9}
	second := api.Vouch{From: 1, To: 3, Level: 3, Number: 1, Time: 6, End: 8, Revoked: -1}
	expectActive(t, l, 5, []api.Vouch{first})
	expectActive(t, l, 6, []api.Vouch{second, first})
	expectActive(t, l, 8, []api.Vouch{first})
	expectActive(t, l, 9, nil)
	expectBetween(t, l, 1, 9, 7, first, true)
	expectBetween(t, l, 1, 3, 7, second, true)
}

// P10.2: what others say changes nothing, but that both keys have not left; the order is that of all vouches.
func TestActiveOfMany(t *testing.T) {
	l := counted(t,
		sample.Write(0, sample.Vouch(1, 9, 1, 30), sample.Vouch(1, 2, 1, 30), sample.Vouch(2, 5, 1, 30), sample.Vouch(9, 2, 1, 30)),
		sample.Write(2, sample.Vouch(1, 0, 1, 30), sample.Vouch(1, 9, 1, 4)),
		sample.Write(5, sample.Vouch(3, 0, 1, 30), sample.Revoke(6, 0), sample.Resign(7)),
		sample.Write(9, sample.Vouch(1, 5, 1, 30), sample.Vouch(1, 2, 1, 30), sample.Resign(10)),
		sample.Write(11, sample.Resign(3)),
		sample.Write(12, sample.Vouch(4, 11, 1, 30)),
	)
	for time, names := range map[int][]name{
		0:  nil,
		1:  {{0, 1}, {0, 0}, {2, 0}, {2, 1}, {9, 1}, {9, 0}},
		2:  {{0, 1}, {0, 2}, {0, 0}, {2, 0}, {2, 1}, {9, 1}, {9, 0}},
		3:  {{0, 1}, {0, 2}, {0, 0}, {2, 0}, {2, 1}, {5, 0}, {9, 1}, {9, 0}},
		4:  {{0, 1}, {0, 2}, {0, 0}, {2, 0}, {5, 0}, {9, 1}, {9, 0}},
		6:  {{0, 1}, {0, 2}, {0, 0}, {2, 0}, {9, 1}, {9, 0}},
		7:  {{0, 1}, {0, 0}, {2, 0}, {9, 1}},
		9:  {{0, 3}, {0, 0}, {2, 0}, {9, 1}},
		10: {{0, 3}, {2, 0}},
		29: {{0, 3}, {2, 0}},
		30: nil,
	} {
		expectActive(t, l, time, named(t, l, names))
	}
}

// P10.2: a vouch for another key, by another author or at another level takes the place of none; one at another level for the same key does.
func TestActiveOthers(t *testing.T) {
	vouch := sample.Vouch(5, 9, 1, 20)
	for what, c := range map[string]struct {
		rows [][]api.Statement
		want []name
	}{
		"another key before":   {[][]api.Statement{sample.Write(1, vouch, sample.Vouch(6, 8, 1, 20))}, []name{{1, 1}, {1, 0}}},
		"another key behind":   {[][]api.Statement{sample.Write(1, vouch, sample.Vouch(6, 10, 1, 20))}, []name{{1, 0}, {1, 1}}},
		"another author":       {[][]api.Statement{sample.Write(1, vouch), sample.Write(2, sample.Other(4, 0, 0, 0), vouch)}, []name{{1, 0}, {2, 1}}},
		"back":                 {[][]api.Statement{sample.Write(1, vouch), sample.Write(9, sample.Other(6, 0, 0, 0), sample.Vouch(6, 1, 1, 20))}, []name{{1, 0}, {9, 1}}},
		"a lesser level":       {[][]api.Statement{sample.Write(1, sample.Vouch(5, 9, 3, 20), sample.Vouch(6, 9, 1, 20))}, []name{{1, 1}}},
		"a sooner end":         {[][]api.Statement{sample.Write(1, vouch, sample.Vouch(6, 9, 1, 11))}, []name{{1, 1}}},
		"a statement like one": {[][]api.Statement{sample.Write(1, vouch, sample.Other(6, 9, 1, 20))}, []name{{1, 0}}},
		"later only":           {[][]api.Statement{sample.Write(1, vouch, sample.Vouch(11, 9, 1, 20), sample.Vouch(12, 9, 1, 20))}, []name{{1, 0}}},
		"between, not in line": {[][]api.Statement{sample.Write(1, vouch, sample.Vouch(6, 8, 1, 20), sample.Vouch(7, 9, 1, 20))}, []name{{1, 1}, {1, 2}}},
	} {
		l := counted(t, c.rows...)
		if got, want := Active(l, 10), named(t, l, c.want); !slices.Equal(got, want) {
			t.Errorf("%s: %v hold, want %v", what, got, want)
		}
	}
}

// P10.2: resignations of either key, at the time and before it, end a vouch; those to come, and those of others, do not.
func TestActiveAndGone(t *testing.T) {
	vouch, other, resign := sample.Vouch(5, 9, 1, 20), sample.Other(1, 0, 0, 0), sample.Resign(8)
	for _, c := range []struct {
		rows [][]api.Statement
		end  int
	}{
		{[][]api.Statement{sample.Write(1, vouch, resign)}, 8},
		{[][]api.Statement{sample.Write(1, vouch), sample.Write(9, other, resign)}, 8},
		{[][]api.Statement{sample.Write(1, vouch, sample.Resign(10)), sample.Write(9, resign)}, 8},
		{[][]api.Statement{sample.Write(1, vouch), sample.Write(9, sample.Resign(5))}, 5},
		{[][]api.Statement{sample.Write(1, vouch), sample.Write(9, sample.Resign(0))}, 5},
		{[][]api.Statement{sample.Write(1, vouch), sample.Write(9, sample.Resign(19))}, 19},
		{[][]api.Statement{sample.Write(1, vouch), sample.Write(9, sample.Resign(20))}, 20},
		{[][]api.Statement{sample.Write(1, vouch), sample.Write(0, resign), sample.Write(5, other, resign), sample.Write(10, resign)}, 20},
	} {
		l := counted(t, c.rows...)
		for time := range 25 {
			var names []name
			if 5 <= time && time < c.end {
				names = []name{{1, 0}}
			}
			expectActive(t, l, time, named(t, l, names))
		}
	}
}

// P10.2: a branch goes past a resignation: what stands there is a vouch that is never active.
func TestActivePastResignation(t *testing.T) {
	l := sample.Write(1, sample.Vouch(2, 9, 1, 20), sample.Resign(4), sample.Vouch(6, 9, 1, 20), sample.Vouch(6, 8, 1, 20))
	expectOf(t, l, []api.Vouch{
		{From: 1, To: 8, Level: 1, Number: 3, Time: 6, End: 20, Revoked: -1},
		{From: 1, To: 9, Level: 1, Number: 0, Time: 2, End: 20, Revoked: -1},
		{From: 1, To: 9, Level: 1, Number: 2, Time: 6, End: 20, Revoked: -1},
	})
	for time := range 25 {
		var names []name
		if 2 <= time && time < 4 {
			names = []name{{1, 0}}
		}
		expectActive(t, l, time, named(t, l, names))
	}
}

// P10.2: the vouch from one key to the other one, not the other way round, and not of keys that are none.
func TestBetween(t *testing.T) {
	l := counted(t,
		sample.Write(0, sample.Vouch(1, 9, 1, 30), sample.Vouch(2, 9, 2, 30), sample.Vouch(2, 5, 3, 30), sample.Vouch(8, 9, 3, 30)),
		sample.Write(5, sample.Vouch(1, 0, 1, 30), sample.Vouch(1, 9, 1, 30)),
		sample.Write(7, sample.Vouch(1, 0, 1, 30), sample.Resign(2)),
	)
	for _, c := range []struct{ from, to, time, number int }{
		{0, 9, 1, 0}, {0, 9, 2, 1}, {0, 9, 7, 1}, {0, 9, 8, 3}, {0, 9, 29, 3}, {0, 5, 8, 2}, {5, 0, 8, 0}, {5, 9, 8, 1}, {7, 0, 1, 0},
	} {
		expectBetween(t, l, c.from, c.to, c.time, named(t, l, []name{{c.from, c.number}})[0], true)
	}
	for _, c := range [][3]int{
		{9, 0, 5}, {9, 5, 5}, {0, 7, 1}, {0, 0, 5}, {5, 5, 5}, {3, 4, 5}, {0, 3, 5}, {3, 9, 5},
		{0, 9, 0}, {0, 9, 30}, {0, 9, -1}, {7, 0, 2}, {0, 9, math.MinInt}, {0, 9, math.MaxInt},
		{-1, 9, 5}, {0, -1, 5}, {0, 64, 5}, {64, 9, 5}, {math.MinInt, math.MaxInt, 5}, {math.MaxInt, math.MinInt, 5},
	} {
		expectBetween(t, l, c[0], c[1], c[2], api.Vouch{}, false)
	}
	expectBetween(t, nil, 0, 1, 5, api.Vouch{}, false)
	expectBetween(t, nil, 0, 0, 0, api.Vouch{}, false)
}
