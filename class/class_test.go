package class

import (
	"bytes"
	"math"
	"testing"

	"tmesis/api"
)

// byNumber is the class of c by the chapter's words, of the numbers that its bytes have.
func byNumber(c int) int {
	switch {
	case c == 9, c == 10, c == 13, c == 32:
		return 1
	case 97 <= c && c <= 122:
		return 2
	case 65 <= c && c <= 90, c == 95:
		return 3
	case 48 <= c && c <= 57:
		return 4
	}
	switch c {
	case 33, 35, 36, 38, 42, 43, 45, 46, 47, 58, 60, 61, 62, 63, 64, 92, 94, 126:
		return 5
	case 40, 41, 44, 59, 91, 93, 123, 124, 125:
		return 6
	case 39:
		return 7
	case 37:
		return 8
	}
	if c >= 128 {
		return 9
	}
	return 0
}

// P2.1: the class of every byte.
func TestOf(t *testing.T) {
	for c := range 256 {
		if got, want := Of(byte(c)), byNumber(c); got != want {
			t.Errorf("Of(%d) = %d, not %d", c, got, want)
		}
	}
}

// P2.1: each class by the characters that the chapter names, and other ones.
func TestOfNamed(t *testing.T) {
	for _, c := range []struct {
		b    string
		want int
	}{
		{"\t\n\r ", api.ClLayout},
		{"abcdefghijklmnopqrstuvwxyz", api.ClLower},
		{"ABCDEFGHIJKLMNOPQRSTUVWXYZ_", api.ClUpper},
		{"0123456789", api.ClDigit},
		{"+-*/\\^<>=~:.?@#&$!", api.ClSymbol},
		{"(),|;[]{}", api.ClSolo},
		{"'", api.ClQuote},
		{"%", api.ClPercent},
		{"\x80\x81\x85\xa0\xc3\xa9\xfe\xff", api.ClHigh},
		{"\x00\x01\x08\x0b\x0c\x0e\x1f\x7f\"`", api.ClOther},
	} {
		for _, b := range []byte(c.b) {
			if got := Of(b); got != c.want {
				t.Errorf("Of(%q) = %d, not %d", b, got, c.want)
			}
		}
	}
}

// P2.1: how many bytes there are of each class.
func TestOfTotals(t *testing.T) {
	var totals [10]int
	for c := range 256 {
		totals[Of(byte(c))]++
	}
	if want := [10]int{128 - 4 - 26 - 27 - 10 - 18 - 9 - 1 - 1, 4, 26, 27, 10, 18, 9, 1, 1, 128}; totals != want {
		t.Errorf("%v, not %v", totals, want)
	}
}

// P2.2: which bytes may stand in a name: those beside the ranges of letters and digits may not; and all bytes.
func TestName(t *testing.T) {
	for _, c := range []byte("azAZ_09") {
		if !Name(c) {
			t.Errorf("Name(%q) = false", c)
		}
	}
	for _, c := range []byte("`{@[^/:'% +(\x00\x7f\x80\xc3\xff") {
		if Name(c) {
			t.Errorf("Name(%q) = true", c)
		}
	}
	for c := range 256 {
		want := byNumber(c) >= 2 && byNumber(c) <= 4
		if Name(byte(c)) != want {
			t.Errorf("Name(%q) = %v", byte(c), !want)
		}
	}
}

// P2.2: runs that end with b, within it, or at its beginning.
func TestRun(t *testing.T) {
	for _, c := range []struct {
		b           string
		class, want int
	}{
		{":-x", api.ClSymbol, 2},
		{":-x:-", api.ClSymbol, 2},
		{"x:-", api.ClSymbol, 0},
		{":-", api.ClSymbol, 2},
		{" \t\r\n\x0b ", api.ClLayout, 4},
		{"abcD", api.ClLower, 3},
		{"A_Zz", api.ClUpper, 3},
		{"_a", api.ClUpper, 1},
		{"007a", api.ClDigit, 3},
		{"([)]'", api.ClSolo, 4},
		{"'''x", api.ClQuote, 3},
		{"%%'", api.ClPercent, 2},
		{"\xc3\xa9\xffa\xff", api.ClHigh, 3},
		{"\x00\"`\x7f ", api.ClOther, 4},
		{"a\x00", api.ClOther, 0},
		{"", api.ClOther, 0},
		{"", api.ClLower, 0},
	} {
		if got := Run([]byte(c.b), c.class); got != c.want {
			t.Errorf("Run(%q, %d) = %d, not %d", c.b, c.class, got, c.want)
		}
	}
	for class := range 10 {
		if got := Run(nil, class); got != 0 {
			t.Errorf("Run(nil, %d) = %d", class, got)
		}
	}
}

// P2.2: a run of any byte, of each class, ends just where a byte of another class stands.
func TestRunOfPairs(t *testing.T) {
	for first := range 256 {
		for second := range 256 {
			b := []byte{byte(first), byte(second)}
			for class := range 10 {
				want := 0
				for want < 2 && byNumber(int(b[want])) == class {
					want++
				}
				if got := Run(b, class); got != want {
					t.Fatalf("Run(% x, %d) = %d, not %d", b, class, got, want)
				}
			}
		}
	}
}

// P2.2: no byte is of a class that there is not.
func TestRunOfNoClass(t *testing.T) {
	for c := range 256 {
		for _, class := range []int{-1, 10, 256, 258, 1<<32 + 2, math.MinInt, math.MaxInt} {
			if got := Run([]byte{byte(c)}, class); got != 0 {
				t.Errorf("Run(%x, %d) = %d", c, class, got)
			}
		}
	}
}

// P2.2: bytes beyond the end of b, which its capacity still has, do not count.
func TestRunWithinLength(t *testing.T) {
	whole := []byte("abcdef")
	for i := range whole {
		if got := Run(whole[:i], api.ClLower); got != i {
			t.Errorf("Run(%q) = %d", whole[:i], got)
		}
	}
}

// R7: what is handed in is not changed.
func TestBytesStay(t *testing.T) {
	b := []byte("a+\xff '%\x00")
	was := bytes.Clone(b)
	for class := range 10 {
		Run(b, class)
	}
	if !bytes.Equal(b, was) {
		t.Errorf("% x, not % x", b, was)
	}
}
