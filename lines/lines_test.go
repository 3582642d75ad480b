package lines_test

import (
	"bytes"
	"math"
	"math/rand/v2"
	"slices"
	"strings"
	"testing"

	"tmesis/api"
	"tmesis/lines"
)

// far are numbers that are a place, a line or a column of no text here.
var far = []int{-1, -2, -3, -10, math.MinInt, math.MinInt + 1, math.MinInt32, 1 << 31, 1 << 32, 1<<32 + 1, 1 << 62, math.MaxInt - 1, math.MaxInt}

// spot is a line and a column.
type spot struct{ line, column int }

// spots is what line and column each place of b has: counted place by place, a newline being what ends a line.
func spots(b []byte) []spot {
	out := []spot{{0, 0}}
	for _, c := range b {
		s := out[len(out)-1]
		if c == 10 {
			out = append(out, spot{s.line + 1, 0})
		} else {
			out = append(out, spot{s.line, s.column + 1})
		}
	}
	return out
}

// checkPlace holds the Place of at against that of spots.
func checkPlace(t *testing.T, b []byte, all []spot, at int) {
	t.Helper()
	var want spot
	wrong := api.Errno(3)
	if 0 <= at && at < len(all) {
		want, wrong = all[at], 0
	}
	if line, column, e := lines.Place(b, at); line != want.line || column != want.column || e != wrong {
		t.Fatalf("Place(%q, %d) = %d, %d, %d, not %v, %d", b, at, line, column, e, want, wrong)
	}
}

// checkOffset holds the Offset of a line and a column against that of spots.
func checkOffset(t *testing.T, b []byte, all []spot, line, column int) {
	t.Helper()
	want, wrong := slices.Index(all, spot{line, column}), api.Errno(0)
	if want < 0 {
		want, wrong = 0, 3
	}
	if at, e := lines.Offset(b, line, column); at != want || e != wrong {
		t.Fatalf("Offset(%q, %d, %d) = %d, %d, not %d, %d", b, line, column, at, e, want, wrong)
	}
}

// check holds all that may be asked of a short text against spots.
func check(t *testing.T, b []byte) {
	t.Helper()
	all := spots(b)
	if n := lines.Count(b); n != all[len(b)].line+1 {
		t.Fatalf("Count(%q) = %d, not %d", b, n, all[len(b)].line+1)
	}
	for at := -2; at <= len(b)+2; at++ {
		checkPlace(t, b, all, at)
		for column := -2; column <= len(b)+2; column++ {
			checkOffset(t, b, all, at, column) // there are no more lines than places
		}
	}
}

// each calls do with all texts of at most most of these bytes.
func each(alphabet string, most int, do func(b []byte)) {
	var more func(b []byte)
	more = func(b []byte) {
		do(b)
		if len(b) == most {
			return
		}
		for _, c := range []byte(alphabet) {
			more(append(slices.Clone(b), c))
		}
	}
	more(nil)
}

// P9.1: the newlines and one more, with nothing behind the last one, with newlines alone, and without any byte.
func TestCount(t *testing.T) {
	for _, c := range []struct {
		b    string
		want int
	}{
		{"", 1},
		{"a", 1},
		{"ab\nc", 2},
		{"ab\nc\n", 3},
		{"\n", 2},
		{"\n\n", 3},
		{"\n\n\n", 4},
		{"a\n\nb", 3},
		{"\na", 2},
		{"a\rb", 1},
		{"a\r\nb\r\n", 3},
		{"\v\f\x00\x85\u2028", 1},
		{"a\\nb", 1},
		{"'a\nb'. % c\n/*\n*/\n", 5},
		{strings.Repeat("\n", 2048), 2049},
		{strings.Repeat("x", 2048), 1},
		{strings.Repeat("xyz\n", 1<<16), 1<<16 + 1},
	} {
		if n := lines.Count([]byte(c.b)); n != c.want {
			t.Errorf("Count of %d bytes, %.20q = %d, not %d", len(c.b), c.b, n, c.want)
		}
	}
	if n := lines.Count(nil); n != 1 {
		t.Errorf("Count(nil) = %d", n)
	}
}

// P9.1, P9.2: the examples of the chapter, and others of unlike kinds, there and back.
func TestPlace(t *testing.T) {
	for _, c := range []struct {
		b                string
		at, line, column int
	}{
		{"ab\nc", 3, 1, 0},
		{"ab\nc", 2, 0, 2},
		{"ab\nc", 4, 1, 1},
		{"ab\nc", 0, 0, 0},
		{"ab\nc", 1, 0, 1},
		{"", 0, 0, 0},
		{"\n", 0, 0, 0},
		{"\n", 1, 1, 0},
		{"\n\n", 1, 1, 0},
		{"\n\n", 2, 2, 0},
		{"a\n\nb", 1, 0, 1},
		{"a\n\nb", 2, 1, 0},
		{"a\n\nb", 3, 2, 0},
		{"a\n\nb", 4, 2, 1},
		{"abc\n", 3, 0, 3},
		{"abc\n", 4, 1, 0},
		{"a\r\nb", 2, 0, 2},         // what is ahead of the newline is of its line
		{"a\r\nb", 3, 1, 0},         //
		{"a\rb", 2, 0, 2},           // no newline
		{"\xc3\xa9\t\nx", 3, 0, 3},  // bytes, not what they show as
		{"\xff\x80\n\xfe", 4, 1, 1}, // bytes that are no UTF-8
		{"\x00\n\x00\x00", 4, 1, 2},
	} {
		if line, column, e := lines.Place([]byte(c.b), c.at); line != c.line || column != c.column || e != 0 {
			t.Errorf("Place(%q, %d) = %d, %d, %d, not %d, %d", c.b, c.at, line, column, e, c.line, c.column)
		}
		if at, e := lines.Offset([]byte(c.b), c.line, c.column); at != c.at || e != 0 {
			t.Errorf("Offset(%q, %d, %d) = %d, %d, not %d", c.b, c.line, c.column, at, e, c.at)
		}
	}
}

// P9.1, R2: a place that there is not is told, and no line or column beside it.
func TestPlaceOutOfRange(t *testing.T) {
	for _, s := range []string{"", "a", "\n", "ab\nc", "ab\nc\n", "\n\n\n"} {
		for _, at := range append([]int{len(s) + 1, len(s) + 2, len(s) + 100}, far...) {
			if line, column, e := lines.Place([]byte(s), at); line != 0 || column != 0 || e != 3 {
				t.Errorf("Place(%q, %d) = %d, %d, %d", s, at, line, column, e)
			}
		}
	}
	for _, at := range append([]int{1}, far...) {
		if line, column, e := lines.Place(nil, at); line != 0 || column != 0 || e != 3 {
			t.Errorf("Place(nil, %d) = %d, %d, %d", at, line, column, e)
		}
	}
	if line, column, e := lines.Place(nil, 0); line != 0 || column != 0 || e != 0 {
		t.Errorf("Place(nil, 0) = %d, %d, %d", line, column, e)
	}
}

// P9.2, R2: a line that there is not, a column that its line has not though another line or the text has, and numbers that would go round are told, and no place beside them.
func TestOffsetOutOfRange(t *testing.T) {
	for _, c := range []struct {
		b            string
		line, column int
	}{
		{"", 0, 1},
		{"", 1, 0},
		{"ab\nc", 0, 3}, // the place of c, but c is of the next line
		{"ab\nc", 0, 4},
		{"ab\nc", 1, 2},
		{"ab\nc", 1, -1}, // the newline, but it is of the line before
		{"ab\nc", 1, -3},
		{"ab\nc", 2, 0},
		{"ab\nc", 2, -1},
		{"ab\nc", 2, -4},
		{"ab\nc", -1, 0},
		{"ab\nc", -1, 1},
		{"ab\nc", -1, 4},
		{"ab\nc", 0, -1},
		{"ab\nc\n", 2, 1},
		{"ab\nc\n", 3, 0},
		{"ab\nc\n", 3, -1},
		{"\n", 0, 1},
		{"\n", 1, 1},
		{"\n", 2, 0},
		{"\n\n\n", 1, 1},
		{"\n\n\n", 4, 0},
		{"abc", 1, 0},
		{"abc", 0, 4},
		{"a\rb", 1, 0},
	} {
		if at, e := lines.Offset([]byte(c.b), c.line, c.column); at != 0 || e != 3 {
			t.Errorf("Offset(%q, %d, %d) = %d, %d", c.b, c.line, c.column, at, e)
		}
	}
	for _, s := range []string{"", "abc", "\n", "ab\nc", "ab\nc\n", "\n\n\n"} {
		for _, n := range far {
			for _, m := range slices.Concat(far, []int{0, 1, 2, 3, -n, ^n}) {
				if at, e := lines.Offset([]byte(s), n, m); at != 0 || e != 3 {
					t.Errorf("Offset(%q, %d, %d) = %d, %d", s, n, m, at, e)
				}
				if at, e := lines.Offset([]byte(s), m, n); at != 0 || e != 3 {
					t.Errorf("Offset(%q, %d, %d) = %d, %d", s, m, n, at, e)
				}
			}
		}
	}
	if at, e := lines.Offset(nil, 0, 0); at != 0 || e != 0 {
		t.Errorf("Offset(nil, 0, 0) = %d, %d", at, e)
	}
	if at, e := lines.Offset(nil, 0, 1); at != 0 || e != 3 {
		t.Errorf("Offset(nil, 0, 1) = %d, %d", at, e)
	}
}

// P9.1, P9.2: just one byte ends a line, of all bytes, whichever stands next to it.
func TestEachByte(t *testing.T) {
	for c := range 256 {
		check(t, []byte{byte(c)})
		for d := range 256 {
			check(t, []byte{byte(c), byte(d)})
		}
		check(t, []byte{'a', byte(c), 'b', byte(c), byte(c), '\n', byte(c)})
	}
}

// P9.1, P9.2, P9.3: all short texts of newlines and bytes that are none, at each place, and each line and column that there might be.
func TestShortTexts(t *testing.T) {
	each("\na", 9, func(b []byte) { check(t, b) })
	each("\na\r", 6, func(b []byte) { check(t, b) })
	each("\n\v\x8a\xc2", 5, func(b []byte) { check(t, b) })
}

// long is a text of n bytes with newlines that are about every bytes away from one another, the same whenever the tests run.
func long(seed uint64, n, every int) []byte {
	c := rand.New(rand.NewPCG(seed, 9))
	b := make([]byte, n)
	for i := range b {
		b[i] = byte(c.Uint32())
		if c.IntN(every) == 0 {
			b[i] = '\n'
		}
	}
	return b
}

// P9.3: each place of a long text has one line and column, which no other place has, and these have that place; a line goes on as far as its newline, and the next one begins behind it.
func TestThereAndBack(t *testing.T) {
	for seed := range uint64(12) {
		b := long(seed, 2048, []int{1, 2, 5, 40, 300, 4000}[seed%6])
		all := spots(b)
		seen := map[spot]bool{}
		for at, s := range all {
			checkPlace(t, b, all, at)
			checkOffset(t, b, all, s.line, s.column)
			seen[s] = true
		}
		if len(seen) != len(b)+1 || lines.Count(b) != all[len(b)].line+1 {
			t.Fatalf("%d lines and columns, %d lines", len(seen), lines.Count(b))
		}
		last := spot{}
		for _, s := range append(all[1:], spot{all[len(b)].line + 1, 0}) {
			if s.line > last.line {
				checkOffset(t, b, all, last.line, last.column+1)
			}
			last = s
		}
		checkOffset(t, b, all, last.line, 0)
	}
}

// P9.1, P9.2: texts beyond MaxText have lines too, few long ones, and many short ones.
func TestGreatTexts(t *testing.T) {
	for _, c := range []struct{ each, times int }{{1, 1 << 16}, {2, 1 << 15}, {1000, 300}, {1 << 18, 2}} {
		b := bytes.Repeat([]byte(strings.Repeat("x", c.each-1)+"\n"), c.times)
		if n := lines.Count(b); n != c.times+1 {
			t.Errorf("%d times %d: %d lines", c.times, c.each, n)
		}
		for _, s := range []spot{{0, 0}, {0, c.each - 1}, {c.times / 2, c.each / 2}, {c.times - 1, c.each - 1}, {c.times, 0}} {
			at := s.line*c.each + s.column
			if line, column, e := lines.Place(b, at); line != s.line || column != s.column || e != 0 {
				t.Errorf("%d times %d: Place(%d) = %d, %d, %d", c.times, c.each, at, line, column, e)
			}
			if n, e := lines.Offset(b, s.line, s.column); n != at || e != 0 {
				t.Errorf("%d times %d: Offset(%v) = %d, %d", c.times, c.each, s, n, e)
			}
		}
		for _, s := range []spot{{0, c.each}, {c.times, 1}, {c.times + 1, 0}, {c.times - 1, c.each}} {
			if n, e := lines.Offset(b, s.line, s.column); n != 0 || e != 3 {
				t.Errorf("%d times %d: Offset(%v) = %d, %d", c.times, c.each, s, n, e)
			}
		}
	}
}

// P9.1, P9.2: bytes beyond the end of b, which its capacity still has, do not count.
func TestWithinLength(t *testing.T) {
	whole := []byte("ab\ncd\n\ne\n")
	for n := range len(whole) + 1 {
		check(t, whole[:n])
		check(t, whole[n:])
		if line, column, e := lines.Place(whole[:n:len(whole)], n+1); line != 0 || column != 0 || e != 3 {
			t.Errorf("Place behind the first %d bytes = %d, %d, %d", n, line, column, e)
		}
	}
}

// R6, R7: what is handed in is not changed, and what is told hangs on it alone, whatever was asked ahead of it.
func TestBytesStay(t *testing.T) {
	b := []byte("ab\nc\n\nd")
	for range 3 {
		check(t, b)
		check(t, []byte("\n\n\nx\n"))
		check(t, nil)
		if string(b) != "ab\nc\n\nd" {
			t.Fatalf("%q", b)
		}
	}
	b[0] = '\n'
	b[2] = 'x'
	check(t, b)
}
