package quote

import (
	"bytes"
	"strings"
	"testing"
	"unicode/utf8"

	"tmesis/api"
)

// byTable is what Take has to tell: what stands there is looked up in the rows of the chapter's table, in their order.
func byTable(b string) (text string, size int, e api.Errno) {
	if !strings.HasPrefix(b, "'") {
		return "", 0, 2
	}
	at := 1
	for {
		rest := b[at:]
		r, n := utf8.DecodeRuneInString(rest)
		switch {
		case strings.HasPrefix(rest, "''"):
			text, at = text+"'", at+2
		case strings.HasPrefix(rest, "'"):
			return text, at + 1, 0
		case strings.HasPrefix(rest, `\n`):
			text, at = text+"\n", at+2
		case strings.HasPrefix(rest, `\\`):
			text, at = text+`\`, at+2
		case strings.HasPrefix(rest, `\'`):
			text, at = text+"'", at+2
		case strings.HasPrefix(rest, `\`):
			return "", at, 13
		case strings.HasPrefix(rest, "\n"), rest == "":
			return "", at, 12
		case rest[0] < 32, rest[0] == 127:
			return "", at, 11
		case r != utf8.RuneError || n == 3:
			text, at = text+rest[:n], at+n
		default:
			return "", at, 10
		}
	}
}

// check holds Take of b against byTable.
func check(t *testing.T, b string) {
	t.Helper()
	text, size, e := Take([]byte(b))
	if s, n, f := byTable(b); string(text) != s || size != n || e != f {
		t.Fatalf("Take(%q) = %q, %d, %d, not %q, %d, %d", b, text, size, e, s, n, f)
	}
}

// doubled is what Put has to write, if it may be written.
var doubled = strings.NewReplacer("'", "''", `\`, `\\`, "\n", `\n`)

// checkPut holds Put of text against doubled, and what was put against Take.
func checkPut(t *testing.T, text string) {
	t.Helper()
	want, wrong := "'"+doubled.Replace(text)+"'", api.Errno(0)
	if _, _, e := byTable(want); e != 0 {
		want, wrong = "", 1
	}
	b, e := Put([]byte(text))
	if string(b) != want || e != wrong {
		t.Fatalf("Put(%q) = %q, %d, not %q, %d", text, b, e, want, wrong)
	}
	if e != 0 {
		return
	}
	if s, n, f := Take(b); string(s) != text || n != len(b) || f != 0 {
		t.Fatalf("Put(%q) = %q, of which Take is %q, %d, %d", text, b, s, n, f)
	}
}

// below calls f with all texts of at most size of these bytes.
func below(alphabet string, size int, f func(b string)) {
	var more func(b string)
	more = func(b string) {
		f(b)
		if len(b) == size {
			return
		}
		for i := range len(alphabet) {
			more(b + alphabet[i:i+1])
		}
	}
	more("")
}

// hard has a byte for each row of the table, and those beside them.
const hard = "'\\n\n\x1f a\x7f\xc3\xa9"

// P4.1: the examples of the chapter, and each row of its table.
func TestTake(t *testing.T) {
	for _, c := range []struct {
		b, text string
		size    int
		e       api.Errno
	}{
		{`'it''s'.`, "it's", 7, api.OK},
		{`'a\t'`, "", 2, api.ErrEscape},
		{`'a'`, "a", 3, api.OK},
		{`''`, "", 2, api.OK},
		{`'' '`, "", 2, api.OK},
		{`''''`, "'", 4, api.OK},
		{`''''''`, "''", 6, api.OK},
		{`'a'b''`, "a", 3, api.OK},
		{`'a' 'b'`, "a", 3, api.OK},
		{`'A b, (c). % d /* e'`, "A b, (c). % d /* e", 20, api.OK},
		{`'"'`, `"`, 3, api.OK},
		{`'\n'`, "\n", 4, api.OK},
		{`'\\'`, `\`, 4, api.OK},
		{`'\''`, "'", 4, api.OK},
		{`'\\n'`, `\n`, 5, api.OK},
		{`'\\\n'`, "\\\n", 6, api.OK},
		{`'\'''x'`, "''x", 7, api.OK},
		{`'\\''x'`, `\'x`, 7, api.OK},
		{"' ~'", " ~", 4, api.OK},
		{"'\xc3\xa9'", "\xc3\xa9", 4, api.OK},
		{"'\xc2\x80'", "\xc2\x80", 4, api.OK},
		{"'\xe2\x82\xac'", "\xe2\x82\xac", 5, api.OK},
		{"'\xf0\x9f\x98\x80'", "\xf0\x9f\x98\x80", 6, api.OK},
		{"'\xef\xbf\xbd'", "\xef\xbf\xbd", 5, api.OK},
		{"'a'\xff", "a", 3, api.OK},
		{"'a'\n", "a", 3, api.OK},
		{"''''\n'", "'", 4, api.OK},
		{"'a'\x00", "a", 3, api.OK},
	} {
		if s, n, e := Take([]byte(c.b)); string(s) != c.text || n != c.size || e != c.e {
			t.Errorf("Take(%q) = %q, %d, %d, not %q, %d, %d", c.b, s, n, e, c.text, c.size, c.e)
		}
	}
}

// P4.1, R2, R3: what is wrong, the first of it, with the bytes that stand ahead of it, and no text.
func TestTakeWrong(t *testing.T) {
	for _, c := range []struct {
		b    string
		size int
		e    api.Errno
	}{
		{"", 0, api.ErrNone},
		{"a", 0, api.ErrNone},
		{"a'", 0, api.ErrNone},
		{" 'a'", 0, api.ErrNone},
		{"\"a\"", 0, api.ErrNone},
		{"`a`", 0, api.ErrNone},
		{"\\'a'", 0, api.ErrNone},
		{"\xe2\x80\x99a'", 0, api.ErrNone},
		{"\xff'", 0, api.ErrNone},
		{"\x00'", 0, api.ErrNone},
		{"'", 1, api.ErrQuote},
		{"'''", 3, api.ErrQuote},
		{"'''''", 5, api.ErrQuote},
		{"'ab", 3, api.ErrQuote},
		{"'ab''", 5, api.ErrQuote},
		{"'\n'", 1, api.ErrQuote},
		{"'a\n'", 2, api.ErrQuote},
		{"'''\n'", 3, api.ErrQuote},
		{`'\'''`, 5, api.ErrQuote},
		{`'\'`, 3, api.ErrQuote},
		{`'\\`, 3, api.ErrQuote},
		{"'\xc3\xa9", 3, api.ErrQuote},
		{`'\`, 1, api.ErrEscape},
		{`'a\`, 2, api.ErrEscape},
		{`'ab\\\`, 5, api.ErrEscape},
		{`'\N'`, 1, api.ErrEscape},
		{`'\"'`, 1, api.ErrEscape},
		{`'\0'`, 1, api.ErrEscape},
		{`'\ '`, 1, api.ErrEscape},
		{"'a\\\n'", 2, api.ErrEscape},
		{"'a\\\x00'", 2, api.ErrEscape},
		{"'a\\\xff'", 2, api.ErrEscape},
		{"'a\\\xc3\xa9'", 2, api.ErrEscape},
		{"'\x00'", 1, api.ErrByte},
		{"'\t'", 1, api.ErrByte},
		{"'ab\r\n'", 3, api.ErrByte},
		{"'a\x1f'", 2, api.ErrByte},
		{"'a\x7f'", 2, api.ErrByte},
		{"'\x80'", 1, api.ErrUtf},
		{"'\xff'", 1, api.ErrUtf},
		{"'a\xc3'", 2, api.ErrUtf},
		{"'a\xc3", 2, api.ErrUtf},
		{"'\xe2\x82'", 1, api.ErrUtf},
		{"'\xc3\xa9\xa9'", 3, api.ErrUtf},
		{"'\xc0\x80'", 1, api.ErrUtf},
		{"'\xed\xa0\x80'", 1, api.ErrUtf},
		{"'\xf4\x90\x80\x80'", 1, api.ErrUtf},
		{"'\t\\t\xff\n", 1, api.ErrByte},
		{"'\\t\t\xff\n", 1, api.ErrEscape},
		{"'\xff\t\\t\n", 1, api.ErrUtf},
		{"'\n\xff\t\\t", 1, api.ErrQuote},
		{"'it''s\\n\\x", 8, api.ErrEscape},
	} {
		text, size, e := Take([]byte(c.b))
		if len(text) != 0 || size != c.size || e != c.e {
			t.Errorf("Take(%q) = %q, %d, %d, not %d, %d", c.b, text, size, e, c.size, c.e)
		}
	}
	if text, size, e := Take(nil); len(text) != 0 || size != 0 || e != api.ErrNone {
		t.Errorf("Take(nil) = %q, %d, %d", text, size, e)
	}
}

// P4.1, P4.2: the errors are the numbers that the chapter names.
func TestErrors(t *testing.T) {
	for _, c := range []struct {
		b string
		e api.Errno
	}{{"x", 2}, {"'\xff'", 10}, {"'\x01'", 11}, {"'x", 12}, {`'\x'`, 13}} {
		if _, _, e := Take([]byte(c.b)); e != c.e {
			t.Errorf("Take(%q): %d, not %d", c.b, e, c.e)
		}
	}
	for _, s := range []string{"\xff", "\x01"} {
		if _, e := Put([]byte(s)); e != 1 {
			t.Errorf("Put(%q): %d", s, e)
		}
	}
}

// P4.1: every byte, wherever it may stand: first, behind the quote, within, behind a backslash, behind the end.
func TestTakeOfEachByte(t *testing.T) {
	for i := range 256 {
		c := string([]byte{byte(i)})
		for _, around := range [][2]string{{"", ""}, {"", "a'"}, {"'", ""}, {"'", "'"}, {"'", "''"}, {"'ab", "c'"}, {`'\`, ""}, {`'a\`, "b'"}, {`'\\`, "'"}, {"'''", "'"}, {"'a'", ""}, {"'a'", "b'"}, {"'\xc3", "'"}, {"'\xe2\x82", "'"}, {"'", "\xa9'"}, {"'", "\x82\xac'"}} {
			check(t, around[0]+c+around[1])
		}
	}
}

// P4.1: all texts of a few bytes, one at least for each row of the table.
func TestTakeOfShortTexts(t *testing.T) {
	below(hard, 5, func(b string) {
		check(t, b)
		check(t, "'"+b)
		check(t, "'"+b+"'")
	})
}

// P4.1: each sequence of more than a byte stands for itself; no half of one does.
func TestTakeOfEachSequence(t *testing.T) {
	for r := rune(0x80); r <= utf8.MaxRune; r++ {
		if !utf8.ValidRune(r) {
			continue
		}
		s := string(r)
		if text, size, e := Take([]byte("'" + s + "'")); string(text) != s || size != len(s)+2 || e != api.OK {
			t.Fatalf("Take of % x between quotes = % x, %d, %d", s, text, size, e)
		}
		if r%61 == 0 {
			check(t, "'a"+s[:len(s)-1])
			check(t, "'a"+s[:len(s)-1]+"'")
			check(t, "'a"+s[1:]+"'")
		}
	}
}

// P4.1: bytes beyond the end of b, which its capacity still has, do not count.
func TestTakeWithinLength(t *testing.T) {
	whole := []byte("'a''\\n\xc3\xa9'")
	for i := range len(whole) + 1 {
		text, size, e := Take(whole[:i])
		if s, n, f := byTable(string(whole[:i])); string(text) != s || size != n || e != f {
			t.Errorf("Take(%q) = %q, %d, %d, not %q, %d, %d", whole[:i], text, size, e, s, n, f)
		}
	}
}

// P4.1, R1: long atoms are taken whole.
func TestTakeOfLongTexts(t *testing.T) {
	for _, s := range []string{"a", "''", `\n`, `\'`, "\xc3\xa9"} {
		check(t, "'"+strings.Repeat(s, 1<<12)+"'.")
		check(t, "'"+strings.Repeat(s, 1<<12))
		check(t, "'"+strings.Repeat(s, 1<<12)+"\x00'")
	}
}

// P4.2: texts that may be written, and how.
func TestPut(t *testing.T) {
	for _, c := range [][2]string{
		{"", "''"},
		{"a", "'a'"},
		{"a b", "'a b'"},
		{"it's", "'it''s'"},
		{"'", "''''"},
		{"''", "''''''"},
		{`\`, `'\\'`},
		{`\\`, `'\\\\'`},
		{"\n", `'\n'`},
		{`\n`, `'\\n'`},
		{"\\\n", `'\\\n'`},
		{`\'`, `'\\'''`},
		{`"`, `'"'`},
		{" ~", "' ~'"},
		{"\xc3\xa9\xe2\x82\xac\xf0\x9f\x98\x80", "'\xc3\xa9\xe2\x82\xac\xf0\x9f\x98\x80'"},
	} {
		if b, e := Put([]byte(c[0])); string(b) != c[1] || e != api.OK {
			t.Errorf("Put(%q) = %q, %d, not %q", c[0], b, e, c[1])
		}
	}
	if b, e := Put(nil); string(b) != "''" || e != api.OK {
		t.Errorf("Put(nil) = %q, %d", b, e)
	}
}

// P4.2, R2: texts that may not be written, and that nothing is told of them beside the error.
func TestPutWrong(t *testing.T) {
	for _, s := range []string{"\x00", "\t", "\r", "a\x1f", "\x7f", "a\x7fb", "\xff", "\x80", "a\xc3", "\xc3'\xa9", "\xe2\x82", "\xc0\x80", "\xed\xa0\x80", "\xf4\x90\x80\x80", "ab\n\tc", "it's\xff"} {
		if b, e := Put([]byte(s)); len(b) != 0 || e != api.ErrArg {
			t.Errorf("Put(%q) = %q, %d", s, b, e)
		}
	}
}

// P4.2, P4.3: every byte, alone and among others, and all texts of a few bytes, are put as the chapter says, and taken.
func TestPutIsTaken(t *testing.T) {
	for i := range 256 {
		c := string([]byte{byte(i)})
		for _, around := range [][2]string{{"", ""}, {"a", ""}, {"", "n"}, {`\`, `'`}, {"'", `\`}, {"\xc3", ""}, {"", "\xa9"}} {
			checkPut(t, around[0]+c+around[1])
		}
	}
	below(hard, 5, func(text string) { checkPut(t, text) })
	for r := rune(0); r <= utf8.MaxRune; r += 7 {
		checkPut(t, string(r))
	}
}

// P4.3: what was put is taken ahead of any byte that is no quote; a quote behind it makes its end a quote within.
func TestPutIsTakenAheadOfOthers(t *testing.T) {
	for _, text := range []string{"", "a", "'", `\`, "\n", "it's", `a\`, "\xc3\xa9"} {
		b, _ := Put([]byte(text))
		for i := range 256 {
			behind := string([]byte{byte(i)})
			s, n, e := Take([]byte(string(b) + behind + "'"))
			if i != '\'' && (string(s) != text || n != len(b) || e != api.OK) {
				t.Errorf("%q ahead of %q: Take is %q, %d, %d", b, behind, s, n, e)
			}
		}
		if s, n, e := Take([]byte(string(b) + "'")); len(s) != 0 || n != len(b)+1 || e != api.ErrQuote {
			t.Errorf("%q ahead of a quote: Take is %q, %d, %d", b, s, n, e)
		}
		if s, n, e := Take([]byte(string(b) + "'z'")); string(s) != text+"'z" || n != len(b)+3 || e != api.OK {
			t.Errorf("%q ahead of a quote and more: Take is %q, %d, %d", b, s, n, e)
		}
	}
}

// R7: what is handed in is not changed, the bytes behind its end neither.
func TestBytesStay(t *testing.T) {
	for _, s := range []string{`'it''s'.`, `'a\n\\\''`, `'a\t'`, "'a", "x", "it's", "\\\n", "\xff"} {
		b := []byte(s + "####")
		Take(b[:len(s)])
		Put(b[:len(s)])
		if string(b) != s+"####" {
			t.Errorf("%q, not %q", b, s)
		}
	}
}

// R7: what is told is the caller's own: it does not change with what was handed in, nor that with it, nor does either touch later answers.
func TestAnswersAreOwn(t *testing.T) {
	fill := func(b []byte) {
		b = b[:cap(b)]
		for i := range b {
			b[i] = 'z'
		}
	}
	for _, s := range []string{"", "a", "abc", "it's", "a\n", "\xc3\xa9", strings.Repeat("x", 100)} {
		b, _ := Put([]byte(s))
		kept := bytes.Clone(b)
		text, _, _ := Take(b)
		again, _, _ := Take(b)
		second, _ := Put(text)
		fill(text)
		if !bytes.Equal(b, kept) || string(again) != s || !bytes.Equal(second, kept) {
			t.Errorf("%q: %q, %q, %q when the text is written over", s, b, again, second)
		}
		fill(b)
		if string(again) != s || !bytes.Equal(second, kept) {
			t.Errorf("%q: %q, %q when what was put is written over", s, again, second)
		}
		if third, e := Put([]byte(s)); !bytes.Equal(third, kept) || e != api.OK {
			t.Errorf("Put(%q) = %q, %d", s, third, e)
		}
	}
}
