package utf

import (
	"bytes"
	"testing"
	"unicode/utf8"
)

// row is a row of the chapter's table: from which to which each byte may be.
type row [][2]byte

// table is the chapter's, one row for each run of first bytes.
var table = []row{
	{{0x00, 0x7F}},
	{{0xC2, 0xDF}, {0x80, 0xBF}},
	{{0xE0, 0xE0}, {0xA0, 0xBF}, {0x80, 0xBF}},
	{{0xE1, 0xEC}, {0x80, 0xBF}, {0x80, 0xBF}},
	{{0xEE, 0xEF}, {0x80, 0xBF}, {0x80, 0xBF}},
	{{0xED, 0xED}, {0x80, 0x9F}, {0x80, 0xBF}},
	{{0xF0, 0xF0}, {0x90, 0xBF}, {0x80, 0xBF}, {0x80, 0xBF}},
	{{0xF1, 0xF3}, {0x80, 0xBF}, {0x80, 0xBF}, {0x80, 0xBF}},
	{{0xF4, 0xF4}, {0x80, 0x8F}, {0x80, 0xBF}, {0x80, 0xBF}},
}

// begins tells whether b begins with a sequence of this row.
func (r row) begins(b []byte) bool {
	if len(b) < len(r) {
		return false
	}
	for i, bound := range r {
		if b[i] < bound[0] || b[i] > bound[1] {
			return false
		}
	}
	return true
}

// byTable is what Take has to tell, read off the table.
func byTable(b []byte) (int, bool) {
	if len(b) == 0 {
		return 0, false
	}
	for _, r := range table {
		if r.begins(b) {
			return len(r), true
		}
	}
	return 1, false
}

// edges are the bytes at, and beside, every bound of the table.
func edges() []byte {
	var out []byte
	has := map[byte]bool{}
	for _, r := range table {
		for _, bound := range r {
			for _, c := range []byte{bound[0] - 1, bound[0], bound[1], bound[1] + 1} {
				if !has[c] {
					has[c] = true
					out = append(out, c)
				}
			}
		}
	}
	return out
}

// below calls f with all texts of at most size of these bytes.
func below(alphabet []byte, size int, f func(b []byte)) {
	var more func(b []byte)
	more = func(b []byte) {
		f(b)
		if len(b) == size {
			return
		}
		for _, c := range alphabet {
			more(append(b, c))
		}
	}
	more(make([]byte, 0, size))
}

// each calls f with all sequences, made from the table.
func each(f func(b []byte)) {
	for _, r := range table {
		var fill func(b []byte)
		fill = func(b []byte) {
			if len(b) == len(r) {
				f(b)
				return
			}
			for c := int(r[len(b)][0]); c <= int(r[len(b)][1]); c++ {
				fill(append(b, byte(c)))
			}
		}
		fill(make([]byte, 0, len(r)))
	}
}

// P1.1: what a sequence is, for all bytes that may stand first and second, and for all edges of the table behind these.
func TestSequence(t *testing.T) {
	check := func(b []byte) {
		n, ok := Take(b)
		if m, is := byTable(b); n != m || ok != is {
			t.Fatalf("Take(% x) = %d, %v, not %d, %v", b, n, ok, m, is)
		}
	}
	for first := range 256 {
		for second := range 256 {
			for _, tail := range []string{"", "\x7f", "\x80", "\xbf", "\xc0", "\x80\x7f", "\x80\x80", "\xbf\xbf", "\xbf\xc0", "\x80\x80\x80", "\xbf\xbf\xbf"} {
				check(append([]byte{byte(first), byte(second)}, tail...))
			}
		}
	}
	below(edges(), 4, check)
}

// P1.1: there are as many sequences as code points that are no surrogates, each of which is taken whole.
func TestAllSequences(t *testing.T) {
	total := 0
	each(func(b []byte) {
		total++
		if n, ok := Take(b); n != len(b) || !ok || !utf8.Valid(b) {
			t.Fatalf("Take(% x) = %d, %v", b, n, ok)
		}
	})
	if total != 0x110000-0x800 {
		t.Fatalf("%d sequences", total)
	}
}

// P1.2: the examples of the chapter, what stands behind a sequence, and what is none.
func TestTake(t *testing.T) {
	for _, c := range []struct {
		b  string
		n  int
		ok bool
	}{
		{"", 0, false},
		{"\xc3\xa9\x41", 2, true},
		{"\xc3\x41", 1, false},
		{"\x00", 1, true},
		{"a\xff", 1, true},
		{"\xe2\x82\xac\xe2", 3, true},
		{"\xf0\x9f\x98\x80\x80", 4, true},
		{"\x80a", 1, false},
		{"\xc0\x80", 1, false},
		{"\xc1\xbf", 1, false},
		{"\xc3", 1, false},
		{"\xe2\x82", 1, false},
		{"\xe2\x82A", 1, false},
		{"\xe0\x9f\xbf", 1, false},
		{"\xed\xa0\x80", 1, false},
		{"\xf0\x8f\xbf\xbf", 1, false},
		{"\xf0\x9f\x98", 1, false},
		{"\xf0\x9f\x98A", 1, false},
		{"\xf4\x90\x80\x80", 1, false},
		{"\xf5\x80\x80\x80", 1, false},
		{"\xff", 1, false},
	} {
		if n, ok := Take([]byte(c.b)); n != c.n || ok != c.ok {
			t.Errorf("Take(% x) = %d, %v, not %d, %v", c.b, n, ok, c.n, c.ok)
		}
	}
	if n, ok := Take(nil); n != 0 || ok {
		t.Errorf("Take(nil) = %d, %v", n, ok)
	}
}

// P1.2: bytes beyond the end of b, which its capacity still has, do not count.
func TestTakeWithinLength(t *testing.T) {
	whole := []byte("\xf0\x9f\x98\x80")
	for i := 1; i < len(whole); i++ {
		if n, ok := Take(whole[:i]); n != 1 || ok {
			t.Errorf("Take(% x) = %d, %v", whole[:i], n, ok)
		}
	}
}

// P1.3: Valid and Count of whole texts, right ones and wrong ones.
func TestValidAndCount(t *testing.T) {
	for _, c := range []struct {
		b     string
		valid bool
		count int
	}{
		{"", true, 0},
		{"\x00\x7f", true, 2},
		{"a\xc3\xa9\xe2\x82\xac\xf0\x9f\x98\x80", true, 4},
		{"a\xc3\xa9\xff\xe2\x82\xac", false, 4},
		{"\xc3\xa9\x80", false, 2},
		{"\xff\xc3\xa9", false, 2},
		{"\xe2\x82", false, 2},
		{"\xe2\x82A", false, 3},
		{"\xf0\x9f\x98\xc3\xa9", false, 4},
		{"\xed\xa0\x80", false, 3},
		{"\xe0\x80\x80\xf4\x90\x80\x80", false, 7},
	} {
		b := []byte(c.b)
		if Valid(b) != c.valid || Count(b) != c.count {
			t.Errorf("% x: %v, %d, not %v, %d", b, Valid(b), Count(b), c.valid, c.count)
		}
	}
	if !Valid(nil) || Count(nil) != 0 {
		t.Errorf("nil: %v, %d", Valid(nil), Count(nil))
	}
}

// P1.3: Valid and Count are what taking off the beginning comes to, by the table.
func TestValidAndCountByTable(t *testing.T) {
	below([]byte("a\x80\x9f\xa0\xbf\xc2\xe0\xed\xf4"), 5, func(b []byte) {
		valid, count := true, 0
		for rest := b; len(rest) > 0; count++ {
			n, ok := byTable(rest)
			valid = valid && ok
			rest = rest[n:]
		}
		if Valid(b) != valid || Count(b) != count {
			t.Fatalf("% x: %v, %d, not %v, %d", b, Valid(b), Count(b), valid, count)
		}
	})
}

// P1.4: nothing that is shorter than a sequence, and begins it, is a sequence; nor is what is taken another one, if more stands behind it.
func TestNoSequenceBeginsAnother(t *testing.T) {
	each(func(b []byte) {
		for i := 1; i < len(b); i++ {
			if n, ok := Take(b[:i]); n != 1 || ok || Valid(b[:i]) {
				t.Fatalf("% x begins % x: %d, %v", b[:i], b, n, ok)
			}
		}
	})
	each(func(b []byte) {
		for _, c := range []byte{0x41, 0x80, 0xBF, 0xC3, 0xF4} {
			if n, ok := Take(append(b[:len(b):len(b)], c)); n != len(b) || !ok {
				t.Fatalf("% x %x: %d, %v", b, c, n, ok)
			}
		}
	})
}

// R7: what is handed in is not changed.
func TestBytesStay(t *testing.T) {
	b := []byte("a\xc3\xa9\xff\xe2\x82\xac\xf0")
	was := bytes.Clone(b)
	Take(b)
	Valid(b)
	Count(b)
	if !bytes.Equal(b, was) {
		t.Errorf("% x, not % x", b, was)
	}
}
