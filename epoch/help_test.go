package epoch

import (
	"math"
	"math/rand"
	"slices"
	"strconv"
	"strings"
	"testing"

	"trustflow/api"
	"trustflow/statement"
)

// far are numbers at the ends of what an int can be, and about them.
var far = []int{math.MinInt, math.MinInt + 1, -1 << 40, -2, -1, 0, 1, api.MaxTime, api.MaxTime + 1, 1 << 40, math.MaxInt - 1, math.MaxInt}

// at is a statement of an author with a number, made at a time; value tells it from others.
func at(time, author, number, value int) api.Statement {
	return api.Statement{Author: author, Number: number, Time: time, Kind: api.KindOther, A: value}
}

// times are statements that were made at these times, each one told from the others by its place.
func times(l ...int) []api.Statement {
	var out []api.Statement
	for i, time := range l {
		out = append(out, at(time, 0, 0, i))
	}
	return out
}

// anyList is statements with fields of any kind, many of which are the same, now and then far off.
func anyList(r *rand.Rand) []api.Statement {
	number := func() int {
		if r.Intn(20) == 0 {
			return far[r.Intn(len(far))]
		}
		return r.Intn(5) - 1
	}
	var l []api.Statement
	for i := range r.Intn(30) {
		l = append(l, at(number(), number(), number(), i))
	}
	return l
}

// isList reports whether two lists are equal.
func isList(a, b []api.Statement) bool { return slices.EqualFunc(a, b, statement.Same) }

// brief shows statements: of each one the time, the author, the number and the value.
func brief(l []api.Statement) string {
	var b strings.Builder
	for _, s := range l {
		b.WriteString(" " + strconv.Itoa(s.Time) + "/" + strconv.Itoa(s.Author) + "/" + strconv.Itoa(s.Number) + ":" + strconv.Itoa(s.A))
	}
	return "[" + b.String() + " ]"
}

// expectList asserts what a function returns of a list, behind which somebody else's statements stand, and that it changes nothing of this.
func expectList(t *testing.T, name string, l []api.Statement, f func([]api.Statement) []api.Statement, want []api.Statement) {
	t.Helper()
	whole := slices.Concat(l, times(7, 3))
	before := slices.Clone(whole)
	got := f(whole[:len(l)])
	if !isList(got, want) {
		t.Errorf("%s of %s is %s, want %s", name, brief(l), brief(got), brief(want))
	}
	if !isList(whole, before) {
		t.Errorf("%s of %s has changed its argument", name, brief(l))
	}
}

// expectUntil asserts what Until returns.
func expectUntil(t *testing.T, l []api.Statement, time int, want []api.Statement) {
	t.Helper()
	expectList(t, "until "+strconv.Itoa(time), l, func(l []api.Statement) []api.Statement { return Until(l, time) }, want)
}

// expectWindow asserts what Window returns.
func expectWindow(t *testing.T, l []api.Statement, from, to int, want []api.Statement) {
	t.Helper()
	expectList(t, "from "+strconv.Itoa(from)+" to "+strconv.Itoa(to), l, func(l []api.Statement) []api.Statement { return Window(l, from, to) }, want)
}

// expectLatest asserts what Latest returns, and that it changes nothing.
func expectLatest(t *testing.T, l []api.Statement, want int) {
	t.Helper()
	before := slices.Clone(l)
	if got := Latest(l); got != want {
		t.Errorf("the latest time of %s is %d, want %d", brief(l), got, want)
	}
	if !isList(l, before) {
		t.Errorf("Latest has changed %s", brief(before))
	}
}
