package digits

import (
	"bytes"
	"fmt"
	"math"
	"math/big"
	"strings"
	"testing"

	"tmesis/api"
)

// zeros is more digits than any number of 64 bits has.
const zeros = "000000000000000000000000000000"

// byBig is what Take has to tell, by numbers that have no bound.
func byBig(b []byte) (n, size int, e api.Errno) {
	for size < len(b) && '0' <= b[size] && b[size] <= '9' {
		size++
	}
	if size == 0 {
		return 0, 0, api.ErrNone
	}
	x, _ := new(big.Int).SetString(string(b[:size]), 10)
	if x.Cmp(big.NewInt(2147483647)) > 0 {
		return 0, size, api.ErrBig
	}
	return int(x.Int64()), size, api.OK
}

// check holds Take of b against byBig.
func check(t *testing.T, b string) {
	t.Helper()
	n, size, e := Take([]byte(b))
	if m, k, f := byBig([]byte(b)); n != m || size != k || e != f {
		t.Errorf("Take(%q) = %d, %d, %d, not %d, %d, %d", b, n, size, e, m, k, f)
	}
}

// numbers are those beside each power of ten, of two, and beside MaxInt, as far as Put takes them, and some between.
func numbers() []int {
	var out []int
	add := func(n int) {
		for m := n - 2; m <= n+2; m++ {
			if 0 <= m && m <= 2147483647 {
				out = append(out, m)
			}
		}
	}
	for n := 1; n <= 10000000000; n *= 10 {
		add(n)
	}
	for n := 1; n <= 1<<31; n *= 2 {
		add(n)
	}
	for n := range 12000 {
		out = append(out, n)
	}
	for n := 12000; n <= 2147483647; n += 104729 {
		out = append(out, n)
	}
	return out
}

// P3.1: the examples of the chapter, what stands behind the digits, the greatest number and the least that is above it, and what is none.
func TestTake(t *testing.T) {
	for _, c := range []struct {
		b       string
		n, size int
		e       api.Errno
	}{
		{"007x", 7, 3, api.OK},
		{"2147483648", 0, 10, api.ErrBig},
		{"0", 0, 1, api.OK},
		{"9", 9, 1, api.OK},
		{"10", 10, 2, api.OK},
		{"1234567890", 1234567890, 10, api.OK},
		{"987654321.", 987654321, 9, api.OK},
		{"2147483646", 2147483646, 10, api.OK},
		{"2147483647", 2147483647, 10, api.OK},
		{"2147483647x9", 2147483647, 10, api.OK},
		{"2147483648x", 0, 10, api.ErrBig},
		{"2147483649", 0, 10, api.ErrBig},
		{"2147483650", 0, 10, api.ErrBig},
		{"3000000000 1", 0, 10, api.ErrBig},
		{"10000000000", 0, 11, api.ErrBig},
		{"12_3", 12, 2, api.OK},
		{"12 3", 12, 2, api.OK},
		{"12a", 12, 2, api.OK},
		{"1e5", 1, 1, api.OK},
		{"0x10", 0, 1, api.OK},
		{"5'", 5, 1, api.OK},
		{"5\x00", 5, 1, api.OK},
		{"5\xff", 5, 1, api.OK},
		{"5/", 5, 1, api.OK},
		{"5:", 5, 1, api.OK},
		{"", 0, 0, api.ErrNone},
		{"x1", 0, 0, api.ErrNone},
		{" 1", 0, 0, api.ErrNone},
		{"-1", 0, 0, api.ErrNone},
		{"+1", 0, 0, api.ErrNone},
		{"_1", 0, 0, api.ErrNone},
		{"/0", 0, 0, api.ErrNone},
		{":0", 0, 0, api.ErrNone},
		{"\x001", 0, 0, api.ErrNone},
		{"\xd9\xa3", 0, 0, api.ErrNone},      // a digit, but no ASCII one
		{"\xef\xbc\x911", 0, 0, api.ErrNone}, // another one, ahead of one that is
	} {
		if n, size, e := Take([]byte(c.b)); n != c.n || size != c.size || e != c.e {
			t.Errorf("Take(%q) = %d, %d, %d, not %d, %d, %d", c.b, n, size, e, c.n, c.size, c.e)
		}
	}
	if n, size, e := Take(nil); n != 0 || size != 0 || e != api.ErrNone {
		t.Errorf("Take(nil) = %d, %d, %d", n, size, e)
	}
}

// P3.1: the errors are the numbers that the chapter names.
func TestErrors(t *testing.T) {
	if _, _, e := Take([]byte("x")); e != 2 {
		t.Errorf("no digit: %d", e)
	}
	if _, _, e := Take([]byte("2147483648")); e != 4 {
		t.Errorf("too great: %d", e)
	}
	if _, e := Put(-1); e != 1 {
		t.Errorf("Put(-1): %d", e)
	}
}

// P3.1: just the digits begin a number, and go on with one, of all bytes.
func TestTakeOfEachByte(t *testing.T) {
	for c := range 256 {
		check(t, string([]byte{byte(c)}))
		check(t, string([]byte{byte(c), '1'}))
		check(t, string([]byte{'1', byte(c)}))
		check(t, string([]byte{'1', byte(c), '2'}))
	}
}

// P3.1: numbers that would go round, at 32 or 64 bits, are too great, and have all their digits.
func TestTakeTooGreat(t *testing.T) {
	for bits := uint(31); bits <= 200; bits++ {
		for d := int64(-3); d <= 12; d++ {
			x := new(big.Int).Lsh(big.NewInt(1), bits)
			x.Add(x, big.NewInt(d))
			check(t, x.String())
			check(t, zeros+x.String()+"x7")
		}
	}
	for _, size := range []int{11, 19, 20, 21, 40, 2048, 1 << 16} {
		for _, d := range []string{"1", "9"} {
			b := strings.Repeat(d, size)
			if n, k, e := Take([]byte(b + "z")); n != 0 || k != size || e != api.ErrBig {
				t.Errorf("Take of %d times %s = %d, %d, %d", size, d, n, k, e)
			}
		}
	}
}

// P3.1: all texts of a few digits and bytes that are none.
func TestTakeOfShortTexts(t *testing.T) {
	const alphabet = "0127a _"
	var more func(b string)
	more = func(b string) {
		check(t, b)
		if len(b) == 5 {
			return
		}
		for _, c := range alphabet {
			more(b + string(c))
		}
	}
	more("")
}

// P3.1: bytes beyond the end of b, which its capacity still has, do not count.
func TestTakeWithinLength(t *testing.T) {
	whole := []byte("1234")
	want := 0
	for i := 1; i < len(whole); i++ {
		want = want*10 + i
		if n, size, e := Take(whole[:i]); n != want || size != i || e != api.OK {
			t.Errorf("Take(%q) = %d, %d, %d", whole[:i], n, size, e)
		}
	}
	if n, size, e := Take(whole[:0]); n != 0 || size != 0 || e != api.ErrNone {
		t.Errorf("Take(%q) = %d, %d, %d", whole[:0], n, size, e)
	}
}

// P3.2: the digits of numbers, the least and the greatest among them.
func TestPut(t *testing.T) {
	for _, c := range []struct {
		n    int
		want string
	}{
		{0, "0"},
		{1, "1"},
		{9, "9"},
		{10, "10"},
		{99, "99"},
		{100, "100"},
		{101, "101"},
		{1000000000, "1000000000"},
		{1234567890, "1234567890"},
		{2147483646, "2147483646"},
		{2147483647, "2147483647"},
	} {
		if b, e := Put(c.n); string(b) != c.want || e != api.OK {
			t.Errorf("Put(%d) = %q, %d, not %q", c.n, b, e, c.want)
		}
	}
	for _, n := range numbers() {
		if b, e := Put(n); string(b) != fmt.Sprint(n) || e != api.OK {
			t.Fatalf("Put(%d) = %q, %d", n, b, e)
		}
	}
}

// P3.2, R2: a number out of range is told, and nothing beside it, though its last bits may be in range.
func TestPutOutOfRange(t *testing.T) {
	for _, n := range []int{-1, -2, -7, -10, -2147483647, -2147483648, -2147483649, 2147483648, 2147483649, 4294967295, 4294967296, 4294967303, 9999999999, 1<<63 - 5, math.MaxInt, math.MinInt, math.MinInt + 7} {
		if b, e := Put(n); len(b) != 0 || e != api.ErrArg {
			t.Errorf("Put(%d) = %q, %d", n, b, e)
		}
	}
}

// P3.2: digits, none that is 0 ahead of others.
func TestPutIsShort(t *testing.T) {
	for _, n := range numbers() {
		b, _ := Put(n)
		if len(b) == 0 || len(b) > 1 && b[0] == '0' || strings.Trim(string(b), "0123456789") != "" {
			t.Fatalf("Put(%d) = %q", n, b)
		}
	}
}

// P3.3: what was put is taken, at the end of a text, and ahead of any byte that is no digit; one more digit makes another number of it.
func TestPutIsTaken(t *testing.T) {
	for _, n := range numbers() {
		b, _ := Put(n)
		for _, behind := range []string{"", "x", " 1", ".", "_9", "\x00", "\xff", "/", ":", "a0"} {
			if m, size, e := Take([]byte(string(b) + behind)); m != n || size != len(b) || e != api.OK {
				t.Fatalf("Put(%d) ahead of %q: Take is %d, %d, %d", n, behind, m, size, e)
			}
		}
	}
	b, _ := Put(214748364)
	if m, size, e := Take(append(b, '7')); m != 2147483647 || size != 10 || e != api.OK {
		t.Errorf("%d, %d, %d", m, size, e)
	}
	b, _ = Put(2147483647)
	if m, size, e := Take(append(b, '0')); m != 0 || size != 11 || e != api.ErrBig {
		t.Errorf("%d, %d, %d", m, size, e)
	}
}

// P3.3: zeros ahead of others count as digits, and else do not matter, to numbers that are too great neither.
func TestZerosAhead(t *testing.T) {
	for _, b := range []string{"0", "7", "10", "2147483647", "2147483648", "99999999999999999999"} {
		n, size, e := Take([]byte(b))
		for i := range len(zeros) + 1 {
			if m, k, f := Take([]byte(zeros[:i] + b + "x")); m != n || k != size+i || f != e {
				t.Errorf("%d zeros ahead of %s: %d, %d, %d", i, b, m, k, f)
			}
		}
	}
}

// R7: what is handed in is not changed.
func TestBytesStay(t *testing.T) {
	for _, s := range []string{"007x", "2147483648", "x1", "12_3"} {
		b := []byte(s)
		Take(b)
		if !bytes.Equal(b, []byte(s)) {
			t.Errorf("%q, not %q", b, s)
		}
	}
}

// R7: what Put tells is the caller's own: it may write over it, and behind it, and later calls do not change it.
func TestPutIsOwn(t *testing.T) {
	for _, n := range []int{0, 7, 10, 42, 99, 100, 2147483647} {
		first, _ := Put(n)
		for _, m := range []int{3, 58, 1000000001, n} {
			second, _ := Put(m)
			if string(first) != fmt.Sprint(n) {
				t.Errorf("Put(%d) is %q behind Put(%d)", n, first, m)
			}
			second = second[:cap(second)]
			for i := range second {
				second[i] = 'z'
			}
			if string(first) != fmt.Sprint(n) {
				t.Errorf("Put(%d) is %q when Put(%d) is written over", n, first, m)
			}
			if b, e := Put(m); string(b) != fmt.Sprint(m) || e != api.OK {
				t.Errorf("Put(%d) = %q, %d", m, b, e)
			}
		}
	}
}
