package store

import (
	"cmp"
	"strings"

	"trustflow/api"
	"trustflow/statement"
)

// compare says which one of two statements stands before the other one in a store. It trusts their seals: of sealed statements these have the digests.
func compare(a, b api.Statement) int {
	return cmp.Or(
		cmp.Compare(a.Author, b.Author),
		cmp.Compare(a.Number, b.Number),
		strings.Compare(a.Seal.Digest, b.Seal.Digest),
	)
}

// isCopy reports whether two sealed statements are one and the same.
func isCopy(a, b api.Statement) bool { return compare(a, b) == 0 }

// ascend reports whether each statement of a list stands before the one behind it, by what their seals say.
func ascend(l []api.Statement) bool {
	for i := 1; i < len(l); i++ {
		if compare(l[i-1], l[i]) >= 0 {
			return false
		}
	}
	return true
}

// isWrong reports whether no store can have a statement: it is not well formed, or not sealed.
func isWrong(s api.Statement) bool {
	return statement.Check(s) != api.OK || !statement.Sealed(s)
}

// arePins reports whether pins are as in a well formed statement: whether a statement that has nothing else is well formed with them.
func arePins(pins []api.Pin) bool {
	return statement.Check(api.Statement{Kind: api.KindOther, Pins: pins}) == api.OK
}

// pick returns the elements of a list that fit, in its order.
func pick[T any](l []T, fits func(T) bool) []T {
	var out []T
	for _, x := range l {
		if fits(x) {
			out = append(out, x)
		}
	}
	return out
}
