package statement

import (
	"trustflow/api"
	"trustflow/wire"
)

// reader takes one value after the other from the bytes that are left.
type reader struct{ rest []byte }

// noStatement is what a reader panics with where the bytes do not go on as those of a statement do: so the reading ends at once, however deep it is.
type noStatement struct{}

// read returns what b says, with its seal, be it well formed or not, and whether it says so much and no more.
func read(b []byte) (s api.Statement, ok bool) {
	// Whatever ends the reading, ok is still false then.
	defer func() {
		if _, ended := recover().(noStatement); ended {
			s, ok = api.Statement{}, false
		}
	}()
	r := reader{rest: b}
	s = r.statement()
	r.require(len(r.rest) == 0)
	return s, true
}

// require ends the reading if something that has to hold does not.
func (r *reader) require(ok bool) {
	if !ok {
		panic(noStatement{})
	}
}

// statement takes the fields of a statement in the order of its bytes.
func (r *reader) statement() api.Statement {
	var s api.Statement
	s.Author = r.number()
	s.Number = r.number()
	s.Prev = r.text(digestSize)
	s.Time = r.number()
	s.Kind = r.number()
	s.A = r.number()
	s.B = r.number()
	s.C = r.number()
	s.List = r.list(api.MaxList)
	s.Pins = r.pins(api.MaxPins)
	s.Body = r.text(api.MaxBody)
	s.Seal.Key = r.number()
	s.Seal.Digest = r.text(digestSize)
	return s
}

// number takes a number.
func (r *reader) number() int {
	v, rest, ok := wire.TakeInt(r.rest)
	r.require(ok)
	r.rest = rest
	return v
}

// text takes a string of at most so many bytes.
func (r *reader) text(most int) string {
	v, rest, ok := wire.TakeText(r.rest, most)
	r.require(ok)
	r.rest = rest
	return v
}

// list takes a list of at most so many numbers.
func (r *reader) list(most int) []int {
	v, rest, ok := wire.TakeInts(r.rest, most)
	r.require(ok)
	r.rest = rest
	return v
}

// pins takes at most so many pins, behind their number.
func (r *reader) pins(most int) []api.Pin {
	n := r.number()
	r.require(between(n, 0, most))
	var pins []api.Pin
	for range n {
		var p api.Pin
		p.Author = r.number()
		p.Height = r.number()
		p.Digest = r.text(digestSize)
		pins = append(pins, p)
	}
	return pins
}
