package sample

import (
	"strconv"
	"strings"

	"trustflow/api"
	"trustflow/statement"
)

// Vouch returns the draft of a vouch for a key at a level, from a time until an end.
func Vouch(time, to, level, end int) api.Statement {
	return api.Statement{Time: time, Kind: api.KindVouch, A: to, B: level, C: end}
}

// Revoke returns the draft of a revocation of the author's vouch with a number.
func Revoke(time, number int) api.Statement {
	return api.Statement{Time: time, Kind: api.KindRevoke, A: number}
}

// Resign returns the draft of a resignation.
func Resign(time int) api.Statement {
	return api.Statement{Time: time, Kind: api.KindResign}
}

// Other returns the draft of a statement that says what a vouch would, but is none.
func Other(time, to, level, end int) api.Statement {
	return api.Statement{Time: time, Kind: api.KindOther, A: to, B: level, C: end}
}

// Write returns drafts as the statements of an author that follow one another, sealed, also past a resignation, where chain.Next has none.
func Write(author int, drafts ...api.Statement) []api.Statement {
	var l []api.Statement
	prev := ""
	for i, s := range drafts {
		s.Author, s.Number, s.Prev = author, i, prev
		s = statement.Seal(s)
		prev = s.Seal.Digest
		l = append(l, s)
	}
	return l
}

// Faces returns s with another face of each of the authors below a number: it resigns at first, and goes on past that.
func Faces(s api.Store, authors int) api.Store {
	for author := range authors {
		s = Store(s.Statements, Write(author, Resign(0), Vouch(1, author+1, 1, 30)))
	}
	return s
}

// Deeds shows statements: of each one the author, the number, the time, the kind and the numbers that it says.
func Deeds(l []api.Statement) string {
	var b strings.Builder
	for _, s := range l {
		b.WriteString(" " + strconv.Itoa(s.Author) + "." + strconv.Itoa(s.Number) + "@" + strconv.Itoa(s.Time) + ":" + strconv.Itoa(s.Kind))
		b.WriteString("(" + strconv.Itoa(s.A) + "," + strconv.Itoa(s.B) + "," + strconv.Itoa(s.C) + ")")
	}
	return "[" + b.String() + " ]"
}

// Lives returns what the authors below a number have said in their lives, by author and number, which all counts: they vouch for one another, often for the same ones again, revoke, say other things, and now and then resign at last. pick(n) chooses a number from 0 to n - 1.
func Lives(authors int, pick func(n int) int) []api.Statement {
	var all []api.Statement
	for author := range authors {
		var drafts []api.Statement
		time := pick(4)
		for range pick(9) {
			drafts = append(drafts, deed(author, authors, time, len(drafts), pick))
			time += pick(3)
		}
		if pick(5) == 0 {
			drafts = append(drafts, Resign(time))
		}
		all = append(all, Write(author, drafts...)...)
	}
	return all
}

// deed returns the draft of what an author says at a time, who has said so many things before and knows the authors below a number.
func deed(author, authors, time, before int, pick func(n int) int) api.Statement {
	to, level, end := pick(authors), 1+pick(api.MaxLevel), time+pick(9)
	switch n := pick(8); {
	case n == 0 || to == author:
		return Other(time, to, level, end)
	case n < 3:
		// Also of numbers that are no vouches, or are still to come.
		return Revoke(time, pick(before+2))
	}
	return Vouch(time, to, level, end)
}
