package token

import (
	"bytes"
	"math"
	"strings"
	"testing"
	"unicode/utf8"

	"tmesis/api"
	"tmesis/layout"
	"tmesis/quote"
)

// The bytes of some classes, as the document tells them.
const (
	lowers  = "abcdefghijklmnopqrstuvwxyz"
	uppers  = "ABCDEFGHIJKLMNOPQRSTUVWXYZ_"
	numbers = "0123456789"
	symbols = `+-*/\^<>=~:.?@#&$!`
	solos   = "(),|;[]{}"
	blanks  = "\t\n\r "
)

// byTable is what Next has to tell: what stands behind the layout is looked up in the rows of the chapter's table.
func byTable(b string, at int) (api.Token, bool) {
	if at < 0 || at > len(b) {
		return api.Token{}, false
	}
	n, e := layout.Skip([]byte(b[at:]))
	from := at + n
	rest := b[from:]
	if e == 14 {
		return api.Token{Kind: 8, From: from, To: len(b), Code: 14}, true
	}
	if rest == "" {
		return api.Token{}, false
	}
	kind, text, size, code := row(rest)
	if kind == 8 {
		text = ""
	}
	return api.Token{Kind: kind, From: from, To: from + size, Text: text, Code: code}, true
}

// row is the row of the table that b stands in: the token's kind, what it says, how many bytes it has, and its error.
func row(b string) (kind int, text string, size int, code api.Errno) {
	whole := func(size int) (string, int) { return b[:size], size }
	switch first := b[:1]; {
	case strings.Contains(uppers, first):
		text, size = whole(nameOf(b))
		return 3, text, size, 0
	case strings.Contains(lowers, first), nameOf(b) > 0 && b[0] >= 0x80:
		text, size = whole(nameOf(b))
		return 1, text, size, 0
	case strings.Contains(symbols, first):
		text, size = whole(len(b) - len(strings.TrimLeft(b, symbols)))
		if text == "." && (size == len(b) || strings.Contains(blanks+"%", b[size:size+1])) {
			return 7, text, size, 0
		}
		return 2, text, size, 0
	case strings.Contains(numbers, first):
		text, size = whole(len(b) - len(strings.TrimLeft(b, numbers)))
		if n := strings.TrimLeft(text, "0"); len(n) > 10 || len(n) == 10 && n > "2147483647" {
			return 8, "", size, 4
		}
		return 4, text, size, 0
	case first == "'":
		said, size, e := quote.Take([]byte(b))
		if e != 0 {
			return 8, "", size, e
		}
		return 5, string(said), size, 0
	case strings.Contains(solos, first):
		return 6, first, 1, 0
	case b[0] >= 0x80:
		return 8, "", 1, 10
	}
	return 8, "", 1, 11
}

// nameOf is how many bytes of b stand ahead of the first one, told rune by rune, that may not be of a name.
func nameOf(b string) int {
	for i, r := range b {
		_, n := utf8.DecodeRuneInString(b[i:])
		ascii := r < 0x80 && strings.ContainsRune(lowers+uppers+numbers, r)
		if !ascii && n < 2 { // of bytes that are no sequence one is taken
			return i
		}
	}
	return len(b)
}

// check holds Next of b behind at against byTable.
func check(t *testing.T, b string, at int) {
	t.Helper()
	k, ok := Next([]byte(b), at)
	if w, there := byTable(b, at); k != w || ok != there {
		t.Fatalf("Next(%q, %d) = %+v, %v, not %+v, %v", b, at, k, ok, w, there)
	}
}

// checkAll holds Next of b, behind each place in it and those beside it, against byTable.
func checkAll(t *testing.T, b string) {
	t.Helper()
	for at := -1; at <= len(b)+1; at++ {
		check(t, b, at)
	}
}

// below calls f with all texts of at most size of these bytes.
func below(alphabet string, size int, f func(b string)) {
	var more func(b string)
	more = func(b string) {
		f(b)
		if len(b) == size {
			return
		}
		for i := range len(alphabet) {
			more(b + alphabet[i:i+1])
		}
	}
	more("")
}

// hard has a byte of each class, both of a sequence, the marks of a comment, and the period.
const hard = "aA1.*/'( %\n\xc3\xa9\x00"

// plainly is a token of these bytes, from there on.
func plainly(kind, from int, text string) api.Token {
	return api.Token{Kind: kind, From: from, To: from + len(text), Text: text}
}

// P6.1, P6.2: the example of the chapter, token by token, each behind the one ahead.
func TestExample(t *testing.T) {
	b, at := []byte("a.b. X"), 0
	for _, want := range []api.Token{
		plainly(api.TkAtom, 0, "a"),
		plainly(api.TkSymbol, 1, "."),
		plainly(api.TkAtom, 2, "b"),
		plainly(api.TkEnd, 3, "."),
		plainly(api.TkVar, 5, "X"),
	} {
		k, ok := Next(b, at)
		if k != want || !ok {
			t.Fatalf("Next behind %d = %+v, %v, not %+v", at, k, ok, want)
		}
		at = k.To
	}
	if k, ok := Next(b, at); ok || k != (api.Token{}) {
		t.Errorf("Next behind %d = %+v, %v", at, k, ok)
	}
}

// P6.2: names: what they begin with tells their kind, and they go on to the first byte that may not be of one.
func TestNames(t *testing.T) {
	for _, c := range []struct {
		b    string
		kind int
		text string
	}{
		{"a", 1, "a"},
		{"z9", 1, "z9"},
		{"aB_9z", 1, "aB_9z"},
		{"a_", 1, "a_"},
		{"abc(", 1, "abc"},
		{"a'b'", 1, "a"},
		{"a.b", 1, "a"},
		{"a%b", 1, "a"},
		{"a/**/b", 1, "a"},
		{"a\x00b", 1, "a"},
		{"a\x7f", 1, "a"},
		{"a`", 1, "a"},
		{"a@", 1, "a"},
		{"a\nb", 1, "a"},
		{"\xc3\xa9", 1, "\xc3\xa9"},
		{"\xc3\x89A", 1, "\xc3\x89A"}, // a great letter, but a high byte
		{"\xc3\xa91_", 1, "\xc3\xa91_"},
		{"\xc2\xa0b", 1, "\xc2\xa0b"}, // a blank, but no layout
		{"\xe2\x82\xac\xf0\x9f\x98\x80+", 1, "\xe2\x82\xac\xf0\x9f\x98\x80"},
		{"a\xc3\xa9b\xe2\x82\xacC ", 1, "a\xc3\xa9b\xe2\x82\xacC"},
		{"a\xff", 1, "a"},
		{"a\xc3", 1, "a"},
		{"a\xc3b", 1, "a"},
		{"a\xe2\x82b", 1, "a"},
		{"a\xc3\xa9\xa9", 1, "a\xc3\xa9"},
		{"\xc3\xa9\xc3", 1, "\xc3\xa9"},
		{"a\xc0\x80", 1, "a"},
		{"a\xed\xa0\x80", 1, "a"},
		{"a\xf4\x90\x80\x80", 1, "a"},
		{"A", 3, "A"},
		{"Z", 3, "Z"},
		{"_", 3, "_"},
		{"__", 3, "__"},
		{"_a", 3, "_a"},
		{"_1.", 3, "_1"},
		{"Xab_C9d", 3, "Xab_C9d"},
		{"X\xc3\xa9 ", 3, "X\xc3\xa9"},
		{"X\xc3", 3, "X"},
		{"X\x80", 3, "X"},
		{"X,Y", 3, "X"},
	} {
		want := plainly(c.kind, 0, c.text)
		if k, ok := Next([]byte(c.b), 0); k != want || !ok {
			t.Errorf("Next(%q, 0) = %+v, %v, not %+v", c.b, k, ok, want)
		}
	}
}

// P6.2: symbols go as far as their run; a period is an end just if it is alone, and layout or nothing is next to it.
func TestSymbols(t *testing.T) {
	for _, c := range []struct {
		b    string
		kind int
		text string
	}{
		{symbols, 2, symbols},
		{":-x", 2, ":-"},
		{"+", 2, "+"},
		{"+(", 2, "+"},
		{"+,", 2, "+"},
		{"+1", 2, "+"},
		{"+'a'", 2, "+"},
		{"+%", 2, "+"},
		{"+ -", 2, "+"},
		{"+\xc3\xa9", 2, "+"},
		{"+/* c */", 2, "+/*"}, // within a run nothing begins a comment
		{"*/", 2, "*/"},
		{"/", 2, "/"},
		{"//*", 2, "//*"},
		{"/ *", 2, "/"},
		{".", 7, "."},
		{". ", 7, "."},
		{".\t", 7, "."},
		{".\n", 7, "."},
		{".\r", 7, "."},
		{".%", 7, "."},
		{".% c\n", 7, "."},
		{". .", 7, "."},
		{".a", 2, "."},
		{".A", 2, "."},
		{".1", 2, "."},
		{"._", 2, "."},
		{".(", 2, "."},
		{".'a'", 2, "."},
		{".\x00", 2, "."},
		{".\x0b", 2, "."},
		{".\x0c", 2, "."},
		{".\xff", 2, "."},
		{".\xc2\xa0", 2, "."},
		{"..", 2, ".."},
		{".. ", 2, ".."},
		{"...", 2, "..."},
		{"+.", 2, "+."},
		{"+. ", 2, "+."},
		{".+ ", 2, ".+"},
		{"./* c */", 2, "./*"},
		{"/. ", 2, "/."},
		{"! ", 2, "!"},
		{": ", 2, ":"},
	} {
		want := plainly(c.kind, 0, c.text)
		if k, ok := Next([]byte(c.b), 0); k != want || !ok {
			t.Errorf("Next(%q, 0) = %+v, %v, not %+v", c.b, k, ok, want)
		}
	}
}

// P6.2: numbers say their digits, quoted atoms what is within the quotes, and solos are one byte each.
func TestOthers(t *testing.T) {
	for _, c := range []struct {
		b    string
		kind int
		text string
		size int
	}{
		{"0", 4, "0", 1},
		{"007x", 4, "007", 3},
		{"12ab", 4, "12", 2},
		{"12.5", 4, "12", 2},
		{"1_0", 4, "1", 1},
		{"1\xc3\xa9", 4, "1", 1},
		{"2147483647", 4, "2147483647", 10},
		{"00000000002147483647.", 4, "00000000002147483647", 20},
		{"''", 5, "", 2},
		{"'a'", 5, "a", 3},
		{"'it''s'.", 5, "it's", 7},
		{`'a\n\\\''b`, 5, "a\n\\'", 9},
		{"' % /* '", 5, " % /* ", 8},
		{"'\xc3\xa9'\xc3", 5, "\xc3\xa9", 4},
		{"'a' 'b'", 5, "a", 3},
		{"'X'", 5, "X", 3},
		{"(", 6, "(", 1},
		{"((", 6, "(", 1},
		{"[]", 6, "[", 1},
		{",,", 6, ",", 1},
		{"||", 6, "|", 1},
		{")a", 6, ")", 1},
	} {
		want := api.Token{Kind: c.kind, To: c.size, Text: c.text}
		if k, ok := Next([]byte(c.b), 0); k != want || !ok {
			t.Errorf("Next(%q, 0) = %+v, %v, not %+v", c.b, k, ok, want)
		}
	}
	for i := range len(solos) {
		s := solos[i : i+1]
		if k, ok := Next([]byte(solos), i); k != plainly(api.TkSolo, i, s) || !ok {
			t.Errorf("Next of the solos behind %d = %+v, %v", i, k, ok)
		}
	}
}

// P6.2, R5: bad tokens: how far they go, why, by the numbers that the chapters name, and that they say nothing.
func TestBad(t *testing.T) {
	for _, c := range []struct {
		b    string
		at   int
		from int
		to   int
		code api.Errno
	}{
		{"2147483648", 0, 0, 10, 4},
		{"02147483648x", 0, 0, 11, 4},
		{"99999999999999999999999999 1", 0, 0, 26, 4},
		{" 4294967296.", 0, 1, 11, 4},
		{"\xff", 0, 0, 1, 10},
		{"\x80\x80", 0, 0, 1, 10},
		{"\xffa", 0, 0, 1, 10},
		{"\xc3", 0, 0, 1, 10},
		{"\xc3a", 0, 0, 1, 10},
		{"\xe2\x82", 0, 0, 1, 10},
		{"\xf0\x9f\x98", 0, 0, 1, 10},
		{"\xc0\x80", 0, 0, 1, 10},
		{"\xed\xa0\x80", 0, 0, 1, 10},
		{"\xc3\xa9", 1, 1, 2, 10}, // from within a sequence on
		{"a\xff ", 1, 1, 2, 10},
		{"\x00", 0, 0, 1, 11},
		{"\x00\x00", 0, 0, 1, 11},
		{"\x0b ", 0, 0, 1, 11},
		{" \x0c", 0, 1, 2, 11},
		{"\x1f", 0, 0, 1, 11},
		{"\x7fa", 0, 0, 1, 11},
		{"\"a\"", 0, 0, 1, 11},
		{"`a`", 0, 0, 1, 11},
		{"'", 0, 0, 1, 12},
		{"'ab", 0, 0, 3, 12},
		{"'ab\n'", 0, 0, 3, 12},
		{"'\n", 0, 0, 1, 12},
		{" 'a''", 0, 1, 5, 12},
		{`'a\t'`, 0, 0, 2, 13},
		{`'\`, 0, 0, 1, 13},
		{"'a\tb'", 0, 0, 2, 11},
		{"'\x7f'", 0, 0, 1, 11},
		{"'a\xff'", 0, 0, 2, 10},
		{"'\xc3'", 0, 0, 1, 10},
		{"/*", 0, 0, 2, 14},
		{" /* x", 0, 1, 5, 14},
		{" /* /* */", 0, 1, 9, 14},
		{"/*/ a.\nb.", 0, 0, 9, 14},
		{"a. /* 'b' \xff 1", 2, 3, 13, 14},
		{"%\n/**/ /*\n", 0, 7, 10, 14},
	} {
		want := api.Token{Kind: 8, From: c.from, To: c.to, Code: c.code}
		if k, ok := Next([]byte(c.b), c.at); k != want || !ok {
			t.Errorf("Next(%q, %d) = %+v, %v, not %+v", c.b, c.at, k, ok, want)
		}
	}
}

// P6.1, R2: where there is no token, because only layout is left, or at is no place, nothing is told of one.
func TestNone(t *testing.T) {
	for _, c := range []struct {
		b  string
		at int
	}{
		{"", 0}, {" ", 0}, {" ", 1}, {"\t\r\n ", 0}, {"%", 0}, {" % c", 0}, {"% c\n", 0}, {"/**/", 0}, {" /* a. */ % b.\n", 0},
		{"a", 1}, {"a ", 1}, {"a.", 2}, {"a. % X", 2}, {"ab%", 2}, {"X/* */", 1}, {"'a'\n", 3}, {"/*/**/", 2},
		{"", -1}, {"", 1}, {"a", -1}, {"a", 2}, {"a", 100}, {" ", 2}, {"ab", math.MinInt}, {"ab", math.MaxInt}, {"ab", 1 << 32}, {"ab", -1 << 32}, {"/*", 3}, {"/*", -1},
	} {
		if k, ok := Next([]byte(c.b), c.at); ok || k != (api.Token{}) {
			t.Errorf("Next(%q, %d) = %+v, %v", c.b, c.at, k, ok)
		}
	}
	for _, at := range []int{-1, 0, 1} {
		if k, ok := Next(nil, at); ok || k != (api.Token{}) {
			t.Errorf("Next(nil, %d) = %+v, %v", at, k, ok)
		}
	}
}

// P6.1: what stands ahead of at does not matter, even if at is within something: it is as if the text began there, but for the places.
func TestBehind(t *testing.T) {
	for _, c := range []struct {
		b    string
		at   int
		want api.Token
	}{
		{"a b", 1, plainly(api.TkAtom, 2, "b")},
		{"a /* c */ % d\n B", 1, plainly(api.TkVar, 15, "B")},
		{"aBc", 1, plainly(api.TkVar, 1, "Bc")},
		{"a12", 1, plainly(api.TkInt, 1, "12")},
		{"12147483648", 1, api.Token{Kind: api.TkBad, From: 1, To: 11, Code: api.ErrBig}},
		{"12147483647", 1, plainly(api.TkInt, 1, "2147483647")},
		{"+.", 1, plainly(api.TkEnd, 1, ".")},
		{"..", 1, plainly(api.TkEnd, 1, ".")},
		{"+.+", 1, plainly(api.TkSymbol, 1, ".+")},
		{"'a'", 1, plainly(api.TkAtom, 1, "a")},
		{"'a'b'", 2, api.Token{Kind: api.TkQuoted, From: 2, To: 5, Text: "b"}},
		{"/* a */", 2, plainly(api.TkAtom, 3, "a")},
		{"/* a */", 1, plainly(api.TkSymbol, 1, "*")},
		{"% a", 1, plainly(api.TkAtom, 2, "a")},
		{"\xc3\xa9b", 2, plainly(api.TkAtom, 2, "b")},
	} {
		if k, ok := Next([]byte(c.b), c.at); k != c.want || !ok {
			t.Errorf("Next(%q, %d) = %+v, %v, not %+v", c.b, c.at, k, ok, c.want)
		}
	}
	below(hard, 3, func(b string) {
		alone, ok := Next([]byte(b), 0)
		for _, ahead := range []string{"a", "1", "+", ".", "'", "/", "%", "/*", "\xc3", "(", " "} {
			k, there := Next([]byte(ahead+b), len(ahead))
			want := alone
			if ok {
				want.From += len(ahead)
				want.To += len(ahead)
			}
			if k != want || there != ok {
				t.Fatalf("Next(%q, %d) = %+v, %v, not %+v, %v", ahead+b, len(ahead), k, there, want, ok)
			}
		}
	})
}

// P6.2: every byte, wherever it may stand: first, behind layout, within and behind each kind of token, behind a period.
func TestEachByte(t *testing.T) {
	for i := range 256 {
		c := string([]byte{byte(i)})
		for _, around := range [][2]string{{"", ""}, {"", "a"}, {" ", ""}, {"%x\n", "1"}, {"/**/", " "}, {"a", "b"}, {"A", "b"}, {"\xc3\xa9", "\xa9"}, {"\xc3", "a"}, {"a\xe2\x82", ""}, {"a", "\xa9"}, {"", "\x82\xac"}, {"+", "-"}, {".", ""}, {".", " "}, {"", "."}, {"..", ""}, {"1", "2"}, {"214748364", ""}, {"'", "'"}, {"'a", ""}, {`'\`, "'"}, {"'a'", "'"}, {"(", ")"}, {"/", "*/"}, {"/*", "*/"}, {"/*", ""}} {
			checkAll(t, around[0]+c+around[1])
		}
	}
}

// P6.2: all pairs of bytes, alone and behind a byte that begins a token which may go on with them.
func TestEachPair(t *testing.T) {
	for i := range 256 {
		for j := range 256 {
			pair := string([]byte{byte(i), byte(j)})
			for _, ahead := range []string{"", "a", ".", "'", "9"} {
				check(t, ahead+pair, 0)
			}
		}
	}
}

// P6.1, P6.2: all texts of a few bytes, one at least of each class, behind each place.
func TestShortTexts(t *testing.T) {
	below(hard, 4, func(b string) { checkAll(t, b) })
	below("a.*/ %\n", 6, func(b string) { check(t, b, 0) })
	below("'\\n\n\x00\xc3\xa9", 6, func(b string) { check(t, "'"+b, 0) })
	below("aA1\xc3\xa9\xe2", 6, func(b string) { check(t, b, 0) })
}

// P6.2: each sequence of more than a byte is of a name, whole, whatever it stands for; no part of one is.
func TestEachSequence(t *testing.T) {
	for r := rune(0x80); r <= utf8.MaxRune; r++ {
		if !utf8.ValidRune(r) {
			continue
		}
		s := string(r)
		if k, ok := Next([]byte(s), 0); k != plainly(api.TkAtom, 0, s) || !ok {
			t.Fatalf("Next(% x, 0) = %+v, %v", s, k, ok)
		}
		if k, ok := Next([]byte("X"+s+"1."), 0); k != plainly(api.TkVar, 0, "X"+s+"1") || !ok {
			t.Fatalf("Next of % x within a variable = %+v, %v", s, k, ok)
		}
		if r%61 == 0 {
			checkAll(t, s[:len(s)-1])
			checkAll(t, "a"+s[:len(s)-1]+"b")
			checkAll(t, "a"+s[1:])
		}
	}
}

// P6.2: numbers at the bound, each with digits 0 ahead.
func TestNumbersAtTheBound(t *testing.T) {
	for n := int64(api.MaxInt) - 20; n <= int64(api.MaxInt)+20; n++ {
		s := ""
		for rest := n; rest > 0; rest /= 10 {
			s = string(rune('0'+rest%10)) + s
		}
		for _, ahead := range []string{"", "0", "000000000000"} {
			want := plainly(api.TkInt, 0, ahead+s)
			if n > api.MaxInt {
				want = api.Token{Kind: api.TkBad, To: len(ahead + s), Code: api.ErrBig}
			}
			if k, ok := Next([]byte(ahead+s+"a"), 0); k != want || !ok {
				t.Errorf("Next(%q, 0) = %+v, %v, not %+v", ahead+s+"a", k, ok, want)
			}
		}
	}
}

// P6.3: a token has a byte, at least, and stands behind at, with only layout between; there is none just if all behind at is layout.
func TestProgress(t *testing.T) {
	below(hard, 4, func(b string) {
		for at := range len(b) + 1 {
			k, ok := Next([]byte(b), at)
			n, e := layout.Skip([]byte(b[at:]))
			if !ok {
				if e != api.OK || at+n != len(b) {
					t.Fatalf("Next(%q, %d): none, but not all is layout", b, at)
				}
				continue
			}
			if e == api.OK && at+n == len(b) {
				t.Fatalf("Next(%q, %d) = %+v, but all is layout", b, at, k)
			}
			if k.From < at || k.To <= k.From || k.To > len(b) {
				t.Fatalf("Next(%q, %d) = %+v", b, at, k)
			}
			if m, f := layout.Skip([]byte(b[at:k.From])); m != k.From-at || f != api.OK {
				t.Fatalf("Next(%q, %d) = %+v, but not only layout is ahead", b, at, k)
			}
			if bad := k.Kind == api.TkBad; bad != (k.Code != api.OK) || bad && k.Text != "" {
				t.Fatalf("Next(%q, %d) = %+v", b, at, k)
			}
			if k.Kind < api.TkQuoted && k.Text != b[k.From:k.To] {
				t.Fatalf("Next(%q, %d) = %+v, but there stands %q", b, at, k, b[k.From:k.To])
			}
		}
	})
}

// P6.1, P6.2: bytes beyond the end of b, which its capacity still has, do not count.
func TestWithinLength(t *testing.T) {
	whole := []byte(" ab\xc3\xa9X. 'it''s' /* c */ :- 2147483648 (\xe2\x82\xac). % d\n.. ")
	for i := range len(whole) + 1 {
		for at := range i + 2 {
			k, ok := Next(whole[:i], at)
			if w, there := byTable(string(whole[:i]), at); k != w || ok != there {
				t.Errorf("Next(%q, %d) = %+v, %v, not %+v, %v", whole[:i], at, k, ok, w, there)
			}
		}
	}
}

// P6.2, R1: tokens however long, and however much layout is ahead of them.
func TestLongTexts(t *testing.T) {
	const many = 1 << 16
	for _, s := range []string{"a", "X_9", "\xc3\xa9", "+", ".", "0", "9", "(", "/* ", "'", "\xff", "\x00", " ", "%\n", "/**/ "} {
		long := strings.Repeat(s, many)
		check(t, long, 0)
		check(t, " "+long+".", 0)
		check(t, long+"a. ", len(long))
		check(t, "'"+long+"'.", 0)
		check(t, "/* "+long+"*/ a", 0)
	}
	deep := strings.Repeat("/*", many) + strings.Repeat("*/", many)
	check(t, deep+"a", 0)
	check(t, deep[2:]+"a", 0)
	check(t, deep[:len(deep)-2]+" a", 0)
}

// R6, R7: what is handed in is not changed, the bytes behind its end neither, a second call tells the same, and what was told stays when the bytes are written over.
func TestBytesStay(t *testing.T) {
	for _, s := range []string{"ab ", "X\xc3\xa9", ":- ", ".", "12a", "2147483648", "'it''s'", "''", "'a", "(", "\xff", "\x00", " /* a", "% a", ""} {
		b := []byte(s + "a.'##")
		was := bytes.Clone(b)
		k, ok := Next(b[:len(s)], 0)
		if again, there := Next(b[:len(s)], 0); again != k || there != ok {
			t.Errorf("Next(%q, 0) = %+v, %v, then %+v, %v", s, k, ok, again, there)
		}
		if !bytes.Equal(b, was) {
			t.Errorf("%q, not %q", b, was)
		}
		text := strings.Clone(k.Text)
		for i := range b {
			b[i] = 'z'
		}
		if k.Text != text {
			t.Errorf("Next(%q, 0): %q, not %q, when the bytes are written over", s, k.Text, text)
		}
	}
}
