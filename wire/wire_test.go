package wire

import (
	"bytes"
	"encoding/binary"
	"math"
	"slices"
	"strings"
	"testing"
)

// numbers are ordinary ones and those at the ends of ranges, of each sign.
var numbers = []int{
	0, 1, 2, 7, 127, 128, 255, 256, 258, 65535, 65536, 1 << 31, 1<<32 - 1, 1 << 32, 1 << 40, 0x0102030405060708, math.MaxInt,
	-1, -2, -128, -256, -257, -1 << 31, -1 << 32, -1 << 40, -0x0102030405060708, math.MinInt + 1, math.MinInt,
}

// texts are strings of several lengths, also with bytes that are no text.
var texts = []string{"", "a", "ab", "\x00", "\x00\x00\x00\x00\x00\x00\x00\x00", "é", "\xff\xfe\x80", "a longer text", strings.Repeat("x", 255), strings.Repeat("yz", 4096)}

// lists are lists of several lengths.
var lists = [][]int{nil, {0}, {1}, {-1}, {1, 2, 3}, {0, 0}, {math.MaxInt, math.MinInt}, numbers, make([]int, 300)}

// starts are bytes that are appended to.
var starts = [][]byte{nil, {}, {0}, {255}, []byte("before"), bytes.Repeat([]byte{9}, 100)}

// eight is a number as P2.1 defines it, by the library's encoding.
func eight(v int) []byte { return binary.BigEndian.AppendUint64(nil, uint64(v)) }

// listed is a list as P2.1 defines it.
func listed(l []int) []byte {
	b := eight(len(l))
	for _, v := range l {
		b = append(b, eight(v)...)
	}
	return b
}

// joined is new memory with a, and b behind it.
func joined(a, b []byte) []byte { return append(bytes.Clone(a), b...) }

// appender is one of the functions that append, with what it appends.
type appender struct {
	name string
	call func([]byte) []byte
	want []byte
}

// appenders are the functions that append, each with all its values.
func appenders() []appender {
	var all []appender
	for _, v := range numbers {
		all = append(all, appender{"Int", func(b []byte) []byte { return Int(b, v) }, eight(v)})
	}
	for _, s := range texts {
		all = append(all, appender{"Text", func(b []byte) []byte { return Text(b, s) }, joined(eight(len(s)), []byte(s))})
	}
	for _, l := range lists {
		all = append(all, appender{"Ints", func(b []byte) []byte { return Ints(b, l) }, listed(l)})
	}
	return all
}

// P2.1: the bytes, written out.
func TestKnownBytes(t *testing.T) {
	for _, c := range []struct {
		name      string
		got, want []byte
	}{
		{"the chapter's example", Text(nil, "ab"), []byte{0, 0, 0, 0, 0, 0, 0, 2, 'a', 'b'}},
		{"the empty text", Text(nil, ""), []byte{0, 0, 0, 0, 0, 0, 0, 0}},
		{"a text of two bytes, one letter", Text(nil, "é"), []byte{0, 0, 0, 0, 0, 0, 0, 2, 0xc3, 0xa9}},
		{"0", Int(nil, 0), []byte{0, 0, 0, 0, 0, 0, 0, 0}},
		{"258", Int(nil, 258), []byte{0, 0, 0, 0, 0, 0, 1, 2}},
		{"-1", Int(nil, -1), []byte{255, 255, 255, 255, 255, 255, 255, 255}},
		{"-2", Int(nil, -2), []byte{255, 255, 255, 255, 255, 255, 255, 254}},
		{"the least number", Int(nil, math.MinInt), []byte{128, 0, 0, 0, 0, 0, 0, 0}},
		{"the greatest number", Int(nil, math.MaxInt), []byte{127, 255, 255, 255, 255, 255, 255, 255}},
		{"eight different bytes", Int([]byte{9}, 0x0102030405060708), []byte{9, 1, 2, 3, 4, 5, 6, 7, 8}},
		{"no numbers", Ints(nil, nil), []byte{0, 0, 0, 0, 0, 0, 0, 0}},
		{"two numbers", Ints([]byte{9}, []int{3, -1}), []byte{9, 0, 0, 0, 0, 0, 0, 0, 2, 0, 0, 0, 0, 0, 0, 0, 3, 255, 255, 255, 255, 255, 255, 255, 255}},
	} {
		if !bytes.Equal(c.got, c.want) {
			t.Errorf("%s: % x, want % x", c.name, c.got, c.want)
		}
	}
}

// P2.1: what was there, and what is appended behind it.
func TestAppended(t *testing.T) {
	for _, a := range appenders() {
		for _, start := range starts {
			if got, want := a.call(start), joined(start, a.want); !bytes.Equal(got, want) {
				t.Errorf("%s to % x: % x, want % x", a.name, start, got, want)
			}
		}
	}
}

// P2.1: neither the bytes nor what stands behind them is written to, though there is room.
func TestAppendLeavesWhatIsBehind(t *testing.T) {
	for _, a := range appenders() {
		for _, start := range starts {
			whole := joined(start, bytes.Repeat([]byte{0x55}, len(a.want)+3))
			before := bytes.Clone(whole)
			a.call(whole[:len(start)])
			if !bytes.Equal(whole, before) {
				t.Errorf("%s to % x writes over what is behind", a.name, start)
			}
		}
	}
}

// P2.1: no change of the result changes the argument, and none of the argument changes the result.
func TestAppendSharesNothing(t *testing.T) {
	for _, a := range appenders() {
		for _, start := range starts {
			b := make([]byte, len(start), len(start)+len(a.want)+3)
			copy(b, start)
			got := a.call(b)
			for i := range b {
				b[i] ^= 0xff
			}
			if !bytes.Equal(got, joined(start, a.want)) {
				t.Errorf("%s to % x: the result changes with the argument", a.name, start)
			}
			before := bytes.Clone(b)
			for i := range got {
				got[i] ^= 0x5a
			}
			if !bytes.Equal(b, before) {
				t.Errorf("%s to % x: the argument changes with the result", a.name, start)
			}
		}
	}
}

// P2.1: two results that grew from the same bytes are apart.
func TestAppendTwice(t *testing.T) {
	start := make([]byte, 3, 1000)
	first, second := Int(start, 1), Int(start, 2)
	if !bytes.Equal(first, joined(start, eight(1))) || !bytes.Equal(second, joined(start, eight(2))) {
		t.Error("two numbers that are appended to the same bytes share memory")
	}
	a, b := Text(first, "a"), Text(first, "b")
	if a[len(a)-1] != 'a' || b[len(b)-1] != 'b' {
		t.Error("two texts that are appended to the same bytes share memory")
	}
	k, l := Ints(first, []int{1}), Ints(first, []int{2})
	if k[len(k)-1] != 1 || l[len(l)-1] != 2 {
		t.Error("two lists that are appended to the same bytes share memory")
	}
}

// R4: the list that is appended is not changed.
func TestIntsLeavesItsList(t *testing.T) {
	l := slices.Clone(numbers)
	Ints([]byte{1}, l)
	if !slices.Equal(l, numbers) {
		t.Error("the list has changed")
	}
}

// R3: an empty list and nil have the same bytes.
func TestEmptyAndNil(t *testing.T) {
	if !bytes.Equal(Ints(nil, nil), Ints([]byte{}, []int{})) {
		t.Error("nil and the empty list have different bytes")
	}
	for _, b := range [][]byte{nil, {}} {
		wantNone(t, b, 5)
	}
}

// wantNone asserts that there is nothing to take from b, by any of the functions.
func wantNone(t *testing.T, b []byte, most int) {
	t.Helper()
	if v, rest, ok := TakeInt(b); ok || v != 0 || len(rest) != 0 {
		t.Errorf("TakeInt of % x: %d, % x, %v", b, v, rest, ok)
	}
	wantNoText(t, b, most)
	wantNoInts(t, b, most)
}

// wantNoText asserts that there is no text of at most so many bytes at the beginning of b.
func wantNoText(t *testing.T, b []byte, most int) {
	t.Helper()
	if s, rest, ok := TakeText(b, most); ok || s != "" || len(rest) != 0 {
		t.Errorf("TakeText of % x, at most %d: %q, % x, %v", b, most, s, rest, ok)
	}
}

// wantNoInts asserts that there is no list of at most so many numbers at the beginning of b.
func wantNoInts(t *testing.T, b []byte, most int) {
	t.Helper()
	if l, rest, ok := TakeInts(b, most); ok || len(l) != 0 || len(rest) != 0 {
		t.Errorf("TakeInts of % x, at most %d: %v, % x, %v", b, most, l, rest, ok)
	}
}

// P2.2: each number, with the bytes that follow.
func TestTakeInt(t *testing.T) {
	for _, want := range numbers {
		for _, behind := range starts {
			v, rest, ok := TakeInt(joined(eight(want), behind))
			if !ok || v != want || !bytes.Equal(rest, behind) {
				t.Errorf("%d: %d, % x, %v", want, v, rest, ok)
			}
		}
	}
}

// P2.2: each text, with the bytes that follow, also when it is as long as it may be.
func TestTakeText(t *testing.T) {
	for _, want := range texts {
		for _, behind := range starts {
			for _, most := range []int{len(want), len(want) + 1, math.MaxInt} {
				s, rest, ok := TakeText(joined(Text(nil, want), behind), most)
				if !ok || s != want || !bytes.Equal(rest, behind) {
					t.Errorf("%q, at most %d: %q, % x, %v", want, most, s, rest, ok)
				}
			}
		}
	}
}

// P2.2: each list, with the bytes that follow, also when it is as long as it may be.
func TestTakeInts(t *testing.T) {
	for _, want := range lists {
		for _, behind := range starts {
			for _, most := range []int{len(want), len(want) + 1, math.MaxInt} {
				l, rest, ok := TakeInts(joined(listed(want), behind), most)
				if !ok || !slices.Equal(l, want) || !bytes.Equal(rest, behind) {
					t.Errorf("%v, at most %d: %v, % x, %v", want, most, l, rest, ok)
				}
			}
		}
	}
}

// P2.2: a byte too few, and any other number too few.
func TestTakeTooFewBytes(t *testing.T) {
	for n := range width {
		wantNone(t, eight(0)[:n], 100)
		wantNone(t, eight(-1)[:n], 100)
	}
	for _, s := range []string{"a", "ab", "\x00", "a longer text"} {
		b := Text(nil, s)
		for n := range b {
			wantNoText(t, b[:n], 100)
		}
	}
	for _, l := range [][]int{{1}, {0, 0}, {1, -2, 3}} {
		b := Ints(nil, l)
		for n := range b {
			wantNoInts(t, b[:n], 100)
		}
	}
}

// P2.2: bytes that are missing are not taken from the memory behind.
func TestTakeNothingFromBehind(t *testing.T) {
	text, list := Text(nil, "abc"), Ints(nil, []int{1, 2})
	wantNone(t, text[:7], 100)
	wantNoText(t, text[:len(text)-1], 100)
	wantNoInts(t, list[:len(list)-1], 100)
}

// P2.2: negative lengths and numbers, whatever is permitted and follows.
func TestTakeNegative(t *testing.T) {
	for _, n := range []int{-1, -2, -8, -1 << 31, -1 << 61, -1 << 62, math.MinInt + 1, math.MinInt} {
		for _, most := range []int{math.MinInt, -1, 0, 5, math.MaxInt} {
			b := joined(eight(n), make([]byte, 80))
			wantNoText(t, b, most)
			wantNoInts(t, b, most)
		}
	}
}

// P2.2: one greater than most, with all bytes there.
func TestTakeMoreThanMost(t *testing.T) {
	for _, n := range []int{1, 2, 3, 64, 300} {
		for _, most := range []int{n - 1, 0, -1, math.MinInt} {
			wantNoText(t, Text(nil, strings.Repeat("x", n)), most)
			wantNoInts(t, Ints(nil, make([]int, n)), most)
		}
	}
}

// P2.2: every length is greater than a negative most, 0 too.
func TestTakeWithNegativeMost(t *testing.T) {
	for _, most := range []int{-1, -2, math.MinInt} {
		wantNoText(t, Text(nil, ""), most)
		wantNoInts(t, Ints(nil, nil), most)
	}
}

// P2.2, P1: lengths and numbers that are permitted but far more than there is, also those whose bytes cannot be counted.
func TestTakeFarTooMany(t *testing.T) {
	for _, n := range []int{1 << 20, 1 << 40, 1<<60 + 1, 1 << 61, 1<<61 + 1, 1 << 62, math.MaxInt / 8, math.MaxInt - 7, math.MaxInt} {
		b := joined(eight(n), make([]byte, 64))
		wantNoText(t, b, math.MaxInt)
		wantNoInts(t, b, math.MaxInt)
	}
}

// R4: nothing is changed by being taken, and what was taken does not change with the bytes.
func TestTakeLeavesItsArgument(t *testing.T) {
	b := Ints(Text(Int(nil, 5), "abc"), []int{1, 2})
	before := bytes.Clone(b)
	_, rest, _ := TakeInt(b)
	s, rest, _ := TakeText(rest, 3)
	l, _, _ := TakeInts(rest, 2)
	if !bytes.Equal(b, before) {
		t.Error("the bytes have changed")
	}
	clear(b)
	if s != "abc" || !slices.Equal(l, []int{1, 2}) {
		t.Errorf("what was taken has changed: %q, %v", s, l)
	}
}

// Consequences: what is taken from what was appended is what was appended.
func TestTakeWhatWasAppended(t *testing.T) {
	for _, v := range numbers {
		for _, s := range texts {
			for _, l := range lists {
				b := Ints(Text(Int(nil, v), s), l)
				gotV, rest, okV := TakeInt(b)
				gotS, rest, okS := TakeText(rest, len(s))
				gotL, rest, okL := TakeInts(rest, len(l))
				if !okV || !okS || !okL || gotV != v || gotS != s || !slices.Equal(gotL, l) || len(rest) != 0 {
					t.Errorf("%d, %q, %v: %d, %q, %v, % x", v, s, l, gotV, gotS, gotL, rest)
				}
			}
		}
	}
}

// Consequences: different lists of values have different bytes, if they are of the same kinds.
func TestDifferentValuesDifferentBytes(t *testing.T) {
	parts := []string{"", "a", "b", "ab", "\x00", "\x00\x00\x00\x00\x00\x00\x00\x00", "\x00\x00\x00\x00\x00\x00\x00\x01a"}
	seen := map[string][2]string{}
	for _, a := range parts {
		for _, b := range parts {
			k := string(Text(Text(nil, a), b))
			if other, ok := seen[k]; ok {
				t.Errorf("%q and %q have the same bytes", other, [2]string{a, b})
			}
			seen[k] = [2]string{a, b}
		}
	}
	rows := map[string][2]int{}
	for i, a := range lists {
		for j, b := range lists {
			k := string(Ints(Ints(nil, a), b))
			if other, ok := rows[k]; ok {
				t.Errorf("the lists %v and %v have the same bytes", other, [2]int{i, j})
			}
			rows[k] = [2]int{i, j}
		}
	}
}

// R1: no state is kept between calls.
func TestNothingIsKept(t *testing.T) {
	first := bytes.Clone(Ints(nil, []int{1, 2}))
	kept := Ints(nil, []int{1, 2})
	Ints(nil, []int{3, 4})
	Text([]byte("x"), "another text")
	TakeInts(eight(9), 3)
	if !bytes.Equal(kept, first) || !bytes.Equal(Ints(nil, []int{1, 2}), first) {
		t.Error("what was returned has changed")
	}
}
