package vector

import (
	"crypto/sha256"
	"math"
	"slices"
	"strconv"
	"strings"
	"testing"

	"trustflow/api"
	"trustflow/sample"
	"trustflow/statement"
)

// me is the author of most statements of these tests.
const me = 5

// outside are numbers that are no keys, and no heights either but for the second one.
var outside = []int{-1, api.MaxKeys, api.MaxChain + 1, 1 << 40, math.MinInt, math.MaxInt}

// list is statements as a list.
func list(s ...api.Statement) []api.Statement { return s }

// together are several lists as one, in new memory.
func together(lists ...[]api.Statement) []api.Statement { return slices.Concat(lists...) }

// sumOf is the sum of statements in the order of a store, by the library's digests.
func sumOf(l ...api.Statement) string {
	var b []byte
	for _, s := range l {
		b = append(b, statement.Digest(s)...)
	}
	sum := sha256.Sum256(b)
	return string(sum[:])
}

// headOf is the head of somebody of whose statements these count, and who has others too or a fork.
func headOf(forked bool, counted []api.Statement, others ...api.Statement) api.Head {
	all := together(counted, others)
	slices.SortFunc(all, sample.Order)
	h := api.Head{Author: all[0].Author, Height: len(counted), Forked: forked, Sum: sumOf(all...)}
	if len(counted) > 0 {
		h.Digest = statement.Digest(counted[len(counted)-1])
	}
	return h
}

// heads are heads as a list.
func heads(h ...api.Head) []api.Head { return h }

// with is a head with a change.
func with(h api.Head, change func(*api.Head)) api.Head {
	change(&h)
	return h
}

// isHeads reports whether two lists of heads are equal, field by field.
func isHeads(a, b []api.Head) bool {
	return slices.EqualFunc(a, b, func(x, y api.Head) bool {
		return x.Author == y.Author && x.Height == y.Height && x.Digest == y.Digest && x.Forked == y.Forked && x.Sum == y.Sum
	})
}

// isIn reports whether a statement is in a list.
func isIn(s api.Statement, l []api.Statement) bool {
	return slices.ContainsFunc(l, func(x api.Statement) bool { return statement.Same(s, x) })
}

// isList reports whether two lists of statements are equal.
func isList(a, b []api.Statement) bool { return slices.EqualFunc(a, b, statement.Same) }

// briefHeads shows heads: of each one the author, the height, whether it is forked and the first bytes of the digest and of the sum.
func briefHeads(l []api.Head) string {
	var b strings.Builder
	for _, h := range l {
		digest, sum := h.Digest+"\x00", h.Sum+"\x00"
		b.WriteString(" " + strconv.Itoa(h.Author) + ":" + strconv.Itoa(h.Height) + "/" + strconv.Itoa(int(digest[0])))
		b.WriteString("/" + strconv.FormatBool(h.Forked) + "/" + strconv.Itoa(int(sum[0])))
	}
	return "[" + b.String() + " ]"
}

// expectHeads asserts the heads of a store, that they are valid, that nothing is missing there, and that the store stays as it was.
func expectHeads(t *testing.T, name string, s api.Store, want ...api.Head) {
	t.Helper()
	memory := slices.Clone(s.Statements)
	got := Of(s)
	if !isHeads(got, want) {
		t.Errorf("%s: the heads of %s are %s, want %s", name, sample.Brief(memory), briefHeads(got), briefHeads(want))
	}
	if !Valid(got) {
		t.Errorf("%s: the heads %s are not valid", name, briefHeads(got))
	}
	if !Same(got, want) {
		t.Errorf("%s: the heads %s are not those of %s", name, briefHeads(got), briefHeads(want))
	}
	expectMissing(t, name, s, got)
	if !isList(s.Statements, memory) {
		t.Errorf("%s: the store has changed", name)
	}
}

// expectMissing asserts what somebody with heads lacks, and that the arguments stay as they were.
func expectMissing(t *testing.T, name string, s api.Store, l []api.Head, want ...api.Statement) {
	t.Helper()
	memory, given := slices.Clone(s.Statements), slices.Clone(l)
	got, err := Missing(s, l)
	if err != api.OK || !isList(got, want) {
		t.Errorf("%s: of %s there lacks %s, error %d, want %s", name, sample.Brief(memory), sample.Brief(got), err, sample.Brief(want))
	}
	if !isList(s.Statements, memory) || !isHeads(l, given) {
		t.Errorf("%s: an argument has changed", name)
	}
}
