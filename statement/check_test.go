package statement

import (
	"math"
	"slices"
	"strconv"
	"strings"
	"testing"

	"trustflow/api"
)

// expect asserts what Check returns of a statement with a change.
func expect(t *testing.T, base api.Statement, name string, make func(*api.Statement), want api.Errno) {
	t.Helper()
	s := cloned(base)
	make(&s)
	before := cloned(s)
	if got := Check(s); got != want {
		t.Errorf("%s: error %d, want %d", name, got, want)
	}
	if !equal(s, before) {
		t.Errorf("%s: the statement has changed", name)
	}
}

// each asserts the same of each of several values that a field is given.
func each(t *testing.T, base api.Statement, name string, set func(*api.Statement, int), want api.Errno, values ...int) {
	t.Helper()
	for _, v := range values {
		expect(t, base, name+" "+strconv.Itoa(v), func(s *api.Statement) { set(s, v) }, want)
	}
}

// P3.1: well formed statements, among them those with the least and the most that is permitted.
func TestCheckOfGoodStatements(t *testing.T) {
	for i, s := range good() {
		if err := Check(s); err != api.OK {
			t.Errorf("statement %d: error %d", i, err)
		}
		if err := Check(Seal(s)); err != api.OK {
			t.Errorf("statement %d, sealed: error %d", i, err)
		}
	}
}

// P3.1: the seal is not looked at.
func TestCheckIgnoresTheSeal(t *testing.T) {
	for _, seal := range []api.Seal{{}, {Key: -1}, {Key: 1000, Digest: "x"}} {
		for i, s := range good() {
			s.Seal = seal
			if err := Check(s); err != api.OK {
				t.Errorf("statement %d: error %d", i, err)
			}
		}
	}
}

// P3.1: ErrKey.
func TestCheckAuthor(t *testing.T) {
	set := func(s *api.Statement, v int) { s.Author = v }
	for _, base := range []api.Statement{vouch(), revoke(), resign(), other()} {
		each(t, base, "Author", set, api.OK, 0, 1, 62, 63)
		each(t, base, "Author", set, api.ErrKey, -1, 64, 65, -63, math.MinInt, math.MaxInt)
	}
}

// P3.1: ErrKind. The kinds from 4 to 9 are none.
func TestCheckKind(t *testing.T) {
	set := func(s *api.Statement, v int) { s.Kind = v }
	base := api.Statement{Author: 1, Time: 5}
	for kind := 10; kind <= 31; kind++ {
		each(t, base, "Kind", set, api.OK, kind)
		each(t, other(), "Kind", set, api.OK, kind)
	}
	for kind := 4; kind <= 9; kind++ {
		each(t, base, "Kind", set, api.ErrKind, kind)
		each(t, other(), "Kind", set, api.ErrKind, kind)
	}
	each(t, base, "Kind", set, api.ErrKind, 0, -1, -2, -10, 32, 33, 64, math.MinInt, math.MaxInt)
	each(t, base, "Kind", set, api.OK, 3)
}

// P3.1: ErrTime.
func TestCheckTime(t *testing.T) {
	set := func(s *api.Statement, v int) { s.Time = v }
	for _, base := range []api.Statement{revoke(), resign(), other(), least()} {
		each(t, base, "Time", set, api.OK, 0, 1, 1<<31-1, 1<<31)
		each(t, base, "Time", set, api.ErrTime, -1, 1<<31+1, 1<<32, math.MinInt, math.MaxInt)
	}
	each(t, vouch(), "Time", set, api.ErrTime, -1, 1<<31+1, math.MinInt, math.MaxInt)
}

// P3.1: ErrRange of the number.
func TestCheckNumber(t *testing.T) {
	set := func(s *api.Statement, v int) { s.Number = v }
	for _, base := range []api.Statement{revoke(), resign(), other()} {
		each(t, base, "Number", set, api.OK, 1, 2, 198, 199)
		each(t, base, "Number", set, api.ErrRange, -1, 200, 201, math.MinInt, math.MaxInt)
	}
}

// P3.1: ErrRange of what a statement says, for a kind that asks for nothing else.
func TestCheckValues(t *testing.T) {
	for _, set := range []func(*api.Statement, int){
		func(s *api.Statement, v int) { s.A = v },
		func(s *api.Statement, v int) { s.B = v },
		func(s *api.Statement, v int) { s.C = v },
		func(s *api.Statement, v int) { s.List = []int{v} },
		func(s *api.Statement, v int) { s.List = []int{v, 1, 2} },
		func(s *api.Statement, v int) { s.List = []int{1, v, 2} },
		func(s *api.Statement, v int) { s.List = []int{1, 2, v} },
	} {
		for _, base := range []api.Statement{other(), least(), full()} {
			each(t, base, "a value", set, api.OK, 0, 1, 1<<40-1, 1<<40)
			each(t, base, "a value", set, api.ErrRange, -1, 1<<40+1, -1<<40, math.MinInt, math.MaxInt)
		}
	}
}

// P3.1: what the kind 1 asks of A, B and C.
func TestCheckVouch(t *testing.T) {
	setA := func(s *api.Statement, v int) { s.A = v }
	setB := func(s *api.Statement, v int) { s.B = v }
	setC := func(s *api.Statement, v int) { s.C = v }
	base := vouch()
	each(t, base, "the key", setA, api.OK, 0, 1, 3, 62, 63)
	each(t, base, "the key", setA, api.ErrRange, -1, 64, 65, 1<<40, math.MinInt, math.MaxInt)
	each(t, base, "the author's own key", setA, api.ErrRange, base.Author)
	each(t, base, "the level", setB, api.OK, 1, 2, 3)
	each(t, base, "the level", setB, api.ErrRange, 0, -1, 4, 5, 1<<40, math.MinInt, math.MaxInt)
	each(t, base, "the end", setC, api.OK, base.Time, base.Time+1, 1<<31-1, 1<<31)
	each(t, base, "the end", setC, api.ErrRange, base.Time-1, 0, -1, 1<<31+1, 1<<40, math.MinInt, math.MaxInt)
	base.Time, base.C = api.MaxTime, api.MaxTime
	each(t, base, "the end at the last time", setC, api.OK, 1<<31)
	each(t, base, "the end at the last time", setC, api.ErrRange, 1<<31-1, 1<<31+1)
	for author := range api.MaxKeys {
		base.Author = author
		each(t, base, "the author's own key", setA, api.ErrRange, author)
		each(t, base, "another key", setA, api.OK, (author+1)%api.MaxKeys)
	}
}

// P3.1: what the kind 2 asks of A, B and C.
func TestCheckRevoke(t *testing.T) {
	base := revoke()
	each(t, base, "the number", func(s *api.Statement, v int) { s.A = v }, api.OK, 0, 1, base.Number, base.Author, 198, 199)
	each(t, base, "the number", func(s *api.Statement, v int) { s.A = v }, api.ErrRange, -1, 200, 201, 1<<40, math.MinInt)
	each(t, base, "B", func(s *api.Statement, v int) { s.B = v }, api.ErrRange, 1, 2, -1, 1<<40)
	each(t, base, "C", func(s *api.Statement, v int) { s.C = v }, api.ErrRange, 1, base.Time, -1, 1<<40)
}

// P3.1: what the kind 3 asks of A, B and C.
func TestCheckResign(t *testing.T) {
	base := resign()
	each(t, base, "A", func(s *api.Statement, v int) { s.A = v }, api.ErrRange, 1, 63, -1, 1<<40)
	each(t, base, "B", func(s *api.Statement, v int) { s.B = v }, api.ErrRange, 1, -1, 1<<40)
	each(t, base, "C", func(s *api.Statement, v int) { s.C = v }, api.ErrRange, 1, base.Time, -1, 1<<40)
}

// P3.1: other kinds ask for nothing of A, B and C.
func TestCheckOtherKinds(t *testing.T) {
	for kind := api.KindOther; kind <= api.MaxKind; kind++ {
		for _, v := range []int{0, 1, 4, 1 << 40} {
			s := api.Statement{Author: 4, Time: 9, Kind: kind, A: v, B: v, C: v}
			if err := Check(s); err != api.OK {
				t.Errorf("kind %d with %d: error %d", kind, v, err)
			}
		}
	}
}

// P3.1: ErrLimit.
func TestCheckLimits(t *testing.T) {
	list := func(s *api.Statement, v int) { s.List = make([]int, v) }
	body := func(s *api.Statement, v int) { s.Body = strings.Repeat("\xff", v) }
	pins := func(s *api.Statement, v int) { s.Pins = pinsOf(v) }
	each(t, other(), "List", list, api.OK, 0, 1, 63, 64)
	each(t, other(), "List", list, api.ErrLimit, 65, 66, 1000)
	each(t, other(), "Pins", pins, api.OK, 0, 1, 63, 64)
	each(t, other(), "Pins", pins, api.ErrLimit, 65, 66, 1000)
	each(t, other(), "Body", body, api.OK, 0, 1, 4095, 4096)
	each(t, other(), "Body", body, api.ErrLimit, 4097, 4098, 1<<20)
	for _, base := range []api.Statement{vouch(), revoke(), resign()} {
		each(t, base, "List", list, api.ErrLimit, 65)
		each(t, base, "Pins", pins, api.ErrLimit, 65)
		each(t, base, "Body", body, api.ErrLimit, 4097)
	}
}

// P3.1: ErrForm of Prev, which only the first statement does not have.
func TestCheckPrev(t *testing.T) {
	set := func(s *api.Statement, v int) { s.Prev = strings.Repeat("p", v) }
	for _, base := range good() {
		first := base
		first.Number = 0
		each(t, first, "Prev of the first", set, api.OK, 0)
		each(t, first, "Prev of the first", set, api.ErrForm, 1, 8, 31, 32, 33, 64)
		for _, n := range []int{1, 2, 199} {
			later := base
			later.Number = n
			each(t, later, "Prev of a later one", set, api.OK, 32)
			each(t, later, "Prev of a later one", set, api.ErrForm, 0, 1, 31, 33, 64)
		}
	}
}

// P3.1: ErrForm of a pin, wherever it stands.
func TestCheckPins(t *testing.T) {
	row := func() []api.Pin { return pinsOf(9)[3:6] }
	for i := range row() {
		pin := func(change func(*api.Pin, int)) func(*api.Statement, int) {
			return func(s *api.Statement, v int) {
				s.Pins = row()
				change(&s.Pins[i], v)
			}
		}
		author := pin(func(p *api.Pin, v int) { p.Author = v })
		height := pin(func(p *api.Pin, v int) { p.Height = v })
		digest := pin(func(p *api.Pin, v int) { p.Digest = strings.Repeat("d", v) })
		each(t, other(), "a pin's author", author, api.ErrForm, -1, 64, math.MinInt, math.MaxInt)
		each(t, other(), "a pin's height", height, api.OK, 1, 2, 199, 200)
		each(t, other(), "a pin's height", height, api.ErrForm, 0, -1, 201, math.MinInt, math.MaxInt)
		each(t, other(), "a pin's digest", digest, api.OK, 32)
		each(t, other(), "a pin's digest", digest, api.ErrForm, 0, 1, 31, 33, 64)
	}
}

// P3.1: ErrForm of pins whose authors do not ascend strictly.
func TestCheckOrderOfPins(t *testing.T) {
	for _, c := range []struct {
		authors []int
		want    api.Errno
	}{
		{[]int{0, 63}, api.OK},
		{[]int{0}, api.OK},
		{[]int{63}, api.OK},
		{[]int{1, 2, 3, 60}, api.OK},
		{[]int{4, 5}, api.OK}, // 4 is the author of the statement: it may be pinned too
		{[]int{2, 2}, api.ErrForm},
		{[]int{0, 0}, api.ErrForm},
		{[]int{2, 1}, api.ErrForm},
		{[]int{1, 3, 2}, api.ErrForm},
		{[]int{2, 1, 3}, api.ErrForm},
		{[]int{1, 2, 2}, api.ErrForm},
		{[]int{1, 2, 1}, api.ErrForm},
		{[]int{-1, 0}, api.ErrForm},
		{[]int{63, 64}, api.ErrForm},
	} {
		s := other()
		s.Pins = nil
		for _, a := range c.authors {
			s.Pins = append(s.Pins, api.Pin{Author: a, Height: 1, Digest: filled('d')})
		}
		if got := Check(s); got != c.want {
			t.Errorf("pins of %v: error %d, want %d", c.authors, got, c.want)
		}
	}
}

// P3.1: ErrForm of the kinds 1 to 3 with anything that only others have.
func TestCheckKindsWithoutLists(t *testing.T) {
	for _, base := range []api.Statement{vouch(), revoke(), resign()} {
		expect(t, base, "a list", func(s *api.Statement) { s.List = []int{0} }, api.ErrForm)
		expect(t, base, "a full list", func(s *api.Statement) { s.List = make([]int, 64) }, api.ErrForm)
		expect(t, base, "a pin", func(s *api.Statement) { s.Pins = pinsOf(1) }, api.ErrForm)
		expect(t, base, "all pins", func(s *api.Statement) { s.Pins = pinsOf(64) }, api.ErrForm)
		expect(t, base, "a body", func(s *api.Statement) { s.Body = "\x00" }, api.ErrForm)
		expect(t, base, "a full body", func(s *api.Statement) { s.Body = strings.Repeat("b", 4096) }, api.ErrForm)
	}
}

// faults are changes that break a condition of any statement, in the order of their errors.
func faults() []struct {
	change
	want api.Errno
} {
	type fault = struct {
		change
		want api.Errno
	}
	longList := func(s *api.Statement) { s.List = append(slices.Clone(s.List), make([]int, 65)...) }
	longPins := func(s *api.Statement) { s.Pins = append(slices.Clone(s.Pins), make([]api.Pin, 65)...) }
	return []fault{
		{change{"Author", func(s *api.Statement) { s.Author = 64 }}, api.ErrKey},
		{change{"Kind", func(s *api.Statement) { s.Kind = 9 }}, api.ErrKind},
		{change{"Time", func(s *api.Statement) { s.Time = -1 }}, api.ErrTime},
		{change{"Number", func(s *api.Statement) { s.Number = 200 }}, api.ErrRange},
		{change{"A", func(s *api.Statement) { s.A = -1 }}, api.ErrRange},
		{change{"B", func(s *api.Statement) { s.B = -1 }}, api.ErrRange},
		{change{"C", func(s *api.Statement) { s.C = 1<<40 + 1 }}, api.ErrRange},
		{change{"an element", func(s *api.Statement) { s.List = append(slices.Clone(s.List), -1) }}, api.ErrRange},
		{change{"a long List", longList}, api.ErrLimit},
		{change{"long Pins", longPins}, api.ErrLimit},
		{change{"a long Body", func(s *api.Statement) { s.Body = strings.Repeat("b", 4097) }}, api.ErrLimit},
		{change{"Prev", func(s *api.Statement) { s.Prev = "x" }}, api.ErrForm},
		{change{"a pin", func(s *api.Statement) { s.Pins = append(slices.Clone(s.Pins), api.Pin{Author: -1}) }}, api.ErrForm},
	}
}

// P1, P3.1: of two errors the first one is returned, in whichever order they came.
func TestCheckOrderOfErrors(t *testing.T) {
	for i, first := range faults() {
		expect(t, other(), first.name, first.make, first.want)
		for _, second := range faults()[i+1:] {
			both := func(s *api.Statement) { first.make(s); second.make(s) }
			turned := func(s *api.Statement) { second.make(s); first.make(s) }
			expect(t, other(), first.name+", "+second.name, both, first.want)
			expect(t, other(), second.name+", "+first.name, turned, first.want)
		}
	}
}

// P1, P3.1: what a kind asks of A, B and C comes behind Author, Kind and Time, and before what is too long or has no form.
func TestCheckOrderOfKindsErrors(t *testing.T) {
	wrong := []struct {
		base api.Statement
		change
	}{
		{vouch(), change{"the own key", func(s *api.Statement) { s.A = s.Author }}},
		{vouch(), change{"the level", func(s *api.Statement) { s.B = 0 }}},
		{vouch(), change{"the end", func(s *api.Statement) { s.C = s.Time - 1 }}},
		{revoke(), change{"the number", func(s *api.Statement) { s.A = 200 }}},
		{revoke(), change{"B", func(s *api.Statement) { s.B = 1 }}},
		{resign(), change{"C", func(s *api.Statement) { s.C = 1 }}},
	}
	for _, w := range wrong {
		expect(t, w.base, w.name, w.make, api.ErrRange)
		for _, f := range faults() {
			want := min(slices.Index(orderOfErrors(), api.ErrRange), slices.Index(orderOfErrors(), f.want))
			expect(t, w.base, w.name+", "+f.name, func(s *api.Statement) { w.make(s); f.make(s) }, orderOfErrors()[want])
		}
		expect(t, w.base, w.name+", a list", func(s *api.Statement) { w.make(s); s.List = []int{0} }, api.ErrRange)
	}
}

// orderOfErrors is the order in which P3.1 names the errors.
func orderOfErrors() []api.Errno {
	return []api.Errno{api.ErrKey, api.ErrKind, api.ErrTime, api.ErrRange, api.ErrLimit, api.ErrForm}
}

// R5: an error is looked for in the whole list, also behind the last element that is permitted, before the next one.
func TestCheckLooksAtWholeLists(t *testing.T) {
	expect(t, other(), "the last of too many elements", func(s *api.Statement) {
		s.List = append(make([]int, 100), -1)
	}, api.ErrRange)
	expect(t, other(), "the last of too many pins", func(s *api.Statement) {
		s.Pins = append(pinsOf(64), api.Pin{Author: -1})
	}, api.ErrLimit)
	expect(t, other(), "an element behind a pin without form", func(s *api.Statement) {
		s.Pins = []api.Pin{{Author: -1}}
		s.List = []int{0, 1 << 41}
	}, api.ErrRange)
}

// P1: any numbers.
func TestCheckOfWildStatements(t *testing.T) {
	want := []api.Errno{api.ErrKind, api.ErrKey, api.ErrKey, api.ErrKind, api.ErrRange}
	for i, s := range wild() {
		if got := Check(s); got != want[i] {
			t.Errorf("statement %d: error %d, want %d", i, got, want[i])
		}
	}
}
