package layout

import (
	"bytes"
	"strings"
	"testing"

	"tmesis/api"
)

// byWords is what Skip has to tell: what stands there is looked up in the list of P5.1.
func byWords(b string) (n int, e api.Errno) {
	for {
		rest := b[n:]
		switch {
		case rest == "":
			return n, 0
		case rest[0] == 9, rest[0] == 10, rest[0] == 13, rest[0] == 32:
			n++
		case rest[0] == '%':
			ahead, _, _ := strings.Cut(rest, "\n")
			n += len(ahead)
		case strings.HasPrefix(rest, "/*"):
			size := belonging(rest)
			if size == 0 {
				return n, 14
			}
			n += size
		default:
			return n, 0
		}
	}
}

// belonging is how many bytes of b are up to the end that belongs to the comment it begins with; 0, if none does. A comment within is one of its own.
func belonging(b string) int {
	for at := 2; at < len(b); {
		switch {
		case strings.HasPrefix(b[at:], "/*"):
			size := belonging(b[at:])
			if size == 0 {
				return 0
			}
			at += size
		case strings.HasPrefix(b[at:], "*/"):
			return at + 2
		default:
			at++
		}
	}
	return 0
}

// check holds Skip of b against byWords.
func check(t *testing.T, b string) {
	t.Helper()
	n, e := Skip([]byte(b))
	if m, f := byWords(b); n != m || e != f {
		t.Fatalf("Skip(%q) = %d, %d, not %d, %d", b, n, e, m, f)
	}
}

// below calls f with all texts of at most size of these bytes.
func below(alphabet string, size int, f func(b string)) {
	var more func(b string)
	more = func(b string) {
		f(b)
		if len(b) == size {
			return
		}
		for i := range len(alphabet) {
			more(b + alphabet[i:i+1])
		}
	}
	more("")
}

// hard has the bytes of which layout is made, and one that is none of them.
const hard = " \n%/*x"

// P5.1: the examples of the chapter, each kind of layout, and where it ends.
func TestSkip(t *testing.T) {
	for _, c := range []struct {
		b string
		n int
	}{
		{" /*/**/*/ x", 10},
		{"", 0},
		{"x", 0},
		{"x ", 0},
		{".", 0},
		{" ", 1},
		{" x y", 1},
		{" \t\r\nx", 4},
		{"\n\n\n", 3},
		{"  .", 2},
		{"\x00", 0},
		{"\x0b", 0},         // a vertical tab
		{"\x0c ", 0},        // a new page
		{" \x08", 1},        // one less than a tab
		{" \x1f", 1},        // one less than a blank
		{" !", 1},           // one more than a blank
		{"\xa0 ", 0},        // high bytes are none, in UTF-8 or not
		{" \xc2\xa0 ", 1},   // a blank that does not break
		{"\xc2\x85x", 0},    // a next line
		{"\xe2\x80\xa8", 0}, // a line separator
		{"\xef\xbb\xbf ", 0},
		{"'% '", 0},
		{" '/* */'", 1},
	} {
		if n, e := Skip([]byte(c.b)); n != c.n || e != api.OK {
			t.Errorf("Skip(%q) = %d, %d, not %d", c.b, n, e, c.n)
		}
	}
	if n, e := Skip(nil); n != 0 || e != api.OK {
		t.Errorf("Skip(nil) = %d, %d", n, e)
	}
}

// P5.1: from a percent sign to the end of the line, which alone ends it, whatever stands there.
func TestSkipToEndOfLine(t *testing.T) {
	for _, c := range []struct {
		b string
		n int
	}{
		{"%", 1},
		{"%%", 2},
		{"%x", 2},
		{"%\n", 2},
		{"%\nx", 2},
		{"%x\ny", 3},
		{"% c\n x", 5},
		{"%a%b\nc", 5},
		{"%a\n%b\nc", 6},
		{"%a\n\n %b", 7},
		{"%a\rb\nc", 5},
		{"%a\r\nb", 4},
		{"%\x0b\x0c\x00\n\x00", 5},
		{"%\xff\xc3\n\xff", 4},
		{"%\xc2\x85\xe2\x80\xa8\nx", 7},
		{"%/*\nx", 4},
		{"%*/\nx", 4},
		{"% /* */ */\n*/", 11},
		{"%'\n'", 3},
		{"%\\\nx", 3},
		{"x%\n", 0},
		{" x%\n", 1},
	} {
		if n, e := Skip([]byte(c.b)); n != c.n || e != api.OK {
			t.Errorf("Skip(%q) = %d, %d, not %d", c.b, n, e, c.n)
		}
	}
}

// P5.1: comments, within each other too, and what only looks like a beginning or an end.
func TestSkipComments(t *testing.T) {
	for _, c := range []struct {
		b string
		n int
	}{
		{"/**/", 4},
		{"/**/x", 4},
		{"/* */ x", 6},
		{"/***/", 5},
		{"/****/x", 6},
		{"/*/ */x", 6},
		{"/**//**/", 8},
		{"/*/**/*/", 8},
		{"/*//**/*/", 9},
		{"/*/*x*/y*/z", 10},
		{"/*/**//**/*/x", 12},
		{"/*/*/**/*/*/", 12},
		{"/* /*/ */ */x", 12},
		{"/*/**/* */", 10}, // the slash that ends the one within begins none
		{"/*x*/*/", 5},
		{"/***/*/", 5},
		{"/* */* */", 5},
		{"/**/*", 4},
		{"/**//", 4},
		{"/**/ /x", 5},
		{"/**/%*/\n/**/", 12},
		{"/**/ % /*\n\t/* % */.", 18},
		{"/* % */x", 7},
		{"/* %\n*/x", 7},
		{"/*'*/'", 5},
		{"/*\\*/x", 5},
		{"/*\n\n*/\nx", 7},
		{"/*\x00\xff\xc3*/\xff", 7},
		{"/* * / */x", 9},
		{"/", 0},
		{"//", 0},
		{"/ *", 0},
		{"/x", 0},
		{"*", 0},
		{"*/", 0},
		{"**/", 0},
		{" */ ", 1},
		{" / *", 1},
		{"+/**/", 0},
		{"/+* */", 0},
		{"//* */", 0},
		{"\\* */", 0},
		{"(* *)", 0},
	} {
		if n, e := Skip([]byte(c.b)); n != c.n || e != api.OK {
			t.Errorf("Skip(%q) = %d, %d, not %d", c.b, n, e, c.n)
		}
	}
}

// P5.1: of a comment that does not end, what stands ahead of the outmost one is told, with the error, whose number the chapter names.
func TestSkipOpenComments(t *testing.T) {
	for _, c := range []struct {
		b string
		n int
	}{
		{" /* /* */", 1},
		{"/*", 0},
		{"/*/", 0},
		{"/*/x", 0},
		{"/**", 0},
		{"/** /", 0},
		{"/* * /", 0},
		{"/*x", 0},
		{"/*\n", 0},
		{"/*'*'/", 0},
		{"/*\x00", 0},
		{"/*\xff", 0},
		{"/*%\n", 0},
		{"/*/*/", 0},
		{"/*/*/*/", 0},
		{"/*/**/", 0},
		{"/*/**//", 0},
		{"/*/*a*/b", 0},
		{"/*//*/*/*/*/", 0},
		{"/*/**//**/", 0},
		{"/**//*", 4},
		{"/**//*/", 4},
		{"/**/ /*/**/", 5},
		{"\t\r\n/*", 3},
		{"% /*\n /*", 6},
		{"%*/\n/* %*\n/", 4},
		{" \n/* a\n % */ /* \n", 13},
	} {
		if n, e := Skip([]byte(c.b)); n != c.n || e != 14 {
			t.Errorf("Skip(%q) = %d, %d, not %d, 14", c.b, n, e, c.n)
		}
	}
}

// P5.1: every byte, wherever it may stand: first, behind each kind of layout, within comments and lines, between the two bytes of a mark.
func TestSkipOfEachByte(t *testing.T) {
	for i := range 256 {
		c := string([]byte{byte(i)})
		for _, around := range [][2]string{{"", ""}, {"", " "}, {" ", "x"}, {"\n", " "}, {"%", ""}, {"%", "\nx"}, {"%x", " \n\n"}, {"%\n", "\n"}, {"/*", "*/"}, {"/* ", " */x"}, {"/*", ""}, {"/", "**/"}, {"/", "*/"}, {"/*/", "**/*/"}, {"/* *", "/ */"}, {"/**", "/"}, {"/**/", " "}, {" ", "/**/"}, {"/*/**/", "*/"}} {
			check(t, around[0]+c+around[1])
		}
	}
}

// P5.1: all texts of a few bytes of which layout is made, and longer ones of those that comments are made of.
func TestSkipOfShortTexts(t *testing.T) {
	below(hard, 7, func(b string) { check(t, b) })
	below("/*x", 11, func(b string) { check(t, "/*"+b) })
	below("/*", 15, func(b string) { check(t, b) })
}

// P5.1: it goes on as long as there is layout: what stands behind a whole one is skipped as it is alone.
func TestSkipGoesOn(t *testing.T) {
	whole := []string{" ", "\t", "\r", "\n", "%\n", "%%/*x\n", "/**/", "/*/**/*/", "/*%*/", "/***/"}
	for _, b := range []string{"", "x", "/", "*/", "/*", "/*/", "%", "%x", " x", "/**/.", "% \n\n/* */:-", " /* /* */"} {
		n, e := Skip([]byte(b))
		for _, first := range whole {
			for _, second := range whole {
				ahead := first + second
				if m, f := Skip([]byte(ahead + b)); m != len(ahead)+n || f != e {
					t.Errorf("Skip(%q) = %d, %d, not %d, %d", ahead+b, m, f, len(ahead)+n, e)
				}
			}
		}
	}
}

// P5.2: behind what is skipped nothing more is, whether a comment stands open there or not.
func TestSkipIsAll(t *testing.T) {
	below(hard, 6, func(b string) {
		n, e := Skip([]byte(b))
		if n < 0 || n > len(b) {
			t.Fatalf("Skip(%q) = %d, %d", b, n, e)
		}
		if m, f := Skip([]byte(b[n:])); m != 0 || f != e {
			t.Fatalf("Skip(%q) = %d, %d, but behind that %d, %d", b, n, e, m, f)
		}
		rest := b[n:]
		if e == api.OK && rest != "" && (strings.ContainsAny(rest[:1], " \n%") || strings.HasPrefix(rest, "/*")) {
			t.Fatalf("Skip(%q) = %d, but there is layout behind it", b, n)
		}
		if e != api.OK && !strings.HasPrefix(rest, "/*") {
			t.Fatalf("Skip(%q) = %d, %d, but no comment begins there", b, n, e)
		}
	})
}

// P5.1: bytes beyond the end of b, which its capacity still has, do not count.
func TestSkipWithinLength(t *testing.T) {
	whole := []byte(" \t%x/*\n/* /**/ *//**/ \n")
	for i := range len(whole) + 1 {
		n, e := Skip(whole[:i])
		if m, f := byWords(string(whole[:i])); n != m || e != f {
			t.Errorf("Skip(%q) = %d, %d, not %d, %d", whole[:i], n, e, m, f)
		}
	}
}

// P5.1, R1: layout however long, and comments however deep, are skipped; one end too few leaves the first one open, one too many stays.
func TestSkipOfLongTexts(t *testing.T) {
	const many = 1 << 17
	for _, s := range []string{" ", "\n", "%\n", "%%/*x\n", "/**/", "/***/ ", "/*/**/*/"} {
		b := strings.Repeat(s, many)
		if n, e := Skip([]byte(b + "x ")); n != len(b) || e != api.OK {
			t.Errorf("Skip of many %q = %d, %d", s, n, e)
		}
	}
	for _, s := range []string{"%", "x", "*", "/ ", "% /*", "*/ "} {
		b := "%" + strings.Repeat(s, many)
		if n, e := Skip([]byte(b)); n != len(b) || e != api.OK {
			t.Errorf("Skip of a line of many %q = %d, %d", s, n, e)
		}
		if n, e := Skip([]byte(b + "\n.")); n != len(b)+1 || e != api.OK {
			t.Errorf("Skip of a line of many %q, and its end = %d, %d", s, n, e)
		}
	}
	for _, s := range []string{"%", "x", "*", "/ ", "\n", "/**/"} {
		b := "/* " + strings.Repeat(s, many)
		if n, e := Skip([]byte(b)); n != 0 || e != api.ErrComment {
			t.Errorf("Skip of an open comment of many %q = %d, %d", s, n, e)
		}
		if n, e := Skip([]byte(b + "*/.")); n != len(b)+2 || e != api.OK {
			t.Errorf("Skip of a comment of many %q = %d, %d", s, n, e)
		}
	}
	for _, size := range []int{127, 128, 255, 256, 32768, 65535, 65536, many} {
		begins, ends := strings.Repeat("/*", size), strings.Repeat("*/", size)
		if n, e := Skip([]byte(" " + begins + ends + "x")); n != 1+4*size || e != api.OK {
			t.Errorf("Skip of %d within each other = %d, %d", size, n, e)
		}
		if n, e := Skip([]byte(" " + begins + ends[2:])); n != 1 || e != api.ErrComment {
			t.Errorf("Skip of %d, one end too few = %d, %d", size, n, e)
		}
		if n, e := Skip([]byte(" " + begins + ends + "*/")); n != 1+4*size || e != api.OK {
			t.Errorf("Skip of %d, one end too many = %d, %d", size, n, e)
		}
	}
}

// R6, R7: what is handed in is not changed, the bytes behind its end neither, and a second call tells the same.
func TestBytesStay(t *testing.T) {
	for _, s := range []string{"", " /*/**/*/ x", " /* /* */", "% c\n x", "%", "x"} {
		b := []byte(s + "*/ ##")
		was := bytes.Clone(b)
		n, e := Skip(b[:len(s)])
		if m, f := Skip(b[:len(s)]); m != n || f != e {
			t.Errorf("Skip(%q) = %d, %d, then %d, %d", s, n, e, m, f)
		}
		if !bytes.Equal(b, was) {
			t.Errorf("%q, not %q", b, was)
		}
	}
}
