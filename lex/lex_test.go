package lex

import (
	"bytes"
	"slices"
	"strconv"
	"strings"
	"testing"
	"unicode/utf8"

	"tmesis/api"
	"tmesis/layout"
	"tmesis/token"
)

// The bytes of some classes, as the document tells them.
const (
	lowers  = "abcdefghijklmnopqrstuvwxyz"
	uppers  = "ABCDEFGHIJKLMNOPQRSTUVWXYZ_"
	numbers = "0123456789"
	symbols = `+-*/\^<>=~:.?@#&$!`
	solos   = "(),|;[]{}"
)

// hard has a byte of each class, both of a sequence, the marks of a comment, and the period.
const hard = "aA1.*/'( %\n\xc3\xa9\x00"

// lists calls f with all lists of at most size members of pool.
func lists[T any](pool []T, size int, f func(l []T)) {
	var more func(l []T)
	more = func(l []T) {
		f(l)
		if len(l) == size {
			return
		}
		for _, x := range pool {
			more(append(slices.Clone(l), x))
		}
	}
	more(nil)
}

// says is a token that tells only its kind and its text.
func says(kind int, text string) api.Token {
	return api.Token{Kind: kind, Text: text}
}

// kinds is each token's kind and text, its places and its error left out.
func kinds(l []api.Token) []api.Token {
	var k []api.Token
	for _, t := range l {
		k = append(k, says(t.Kind, t.Text))
	}
	return k
}

// chain is what All has to tell, told from the last token on: the one behind at, and ahead of the ones behind its end.
func chain(b []byte, at int) []api.Token {
	t, ok := token.Next(b, at)
	if !ok {
		return nil
	}
	return slices.Concat([]api.Token{t}, chain(b, t.To))
}

// named tells whether text is a name that begins with one of these bytes, or, if so, with a sequence of more than one.
func named(text, first string, high bool) bool {
	if text == "" || !utf8.ValidString(text) {
		return false
	}
	if strings.ContainsFunc(text, func(r rune) bool { return r < 0x80 && !strings.ContainsRune(lowers+uppers+numbers, r) }) {
		return false
	}
	return strings.Contains(first, text[:1]) || high && text[0] >= 0x80
}

// only tells whether text has bytes, and only these.
func only(text, of string) bool {
	return text != "" && strings.Trim(text, of) == ""
}

// lone tells whether a token of this kind and text, with a blank behind it (a newline behind an end), is lexed as one of that kind and text.
func lone(kind int, text string) bool {
	switch kind {
	case 1:
		return named(text, lowers, true)
	case 2:
		return only(text, symbols) && text != "." && !strings.HasPrefix(text, "/*")
	case 3:
		return named(text, uppers, false)
	case 4:
		n := strings.TrimLeft(text, "0")
		return only(text, numbers) && (len(n) < 10 || len(n) == 10 && n <= "2147483647")
	case 5:
		return utf8.ValidString(text) && !strings.ContainsFunc(text, func(r rune) bool { return r < 32 && r != '\n' || r == 127 })
	case 6:
		return len(text) == 1 && strings.Contains(solos, text)
	case 7:
		return text == "."
	}
	return false
}

// doubled is what stands between the quotes of a text.
var doubled = strings.NewReplacer("'", "''", `\`, `\\`, "\n", `\n`)

// joined is what Join has to tell. As layout stands between the tokens, each of them may be or not whatever is beside it.
func joined(l []api.Token) (string, api.Errno) {
	s := ""
	for _, t := range l {
		if !lone(t.Kind, t.Text) {
			return "", 1
		}
		switch t.Kind {
		case 5:
			s += "'" + doubled.Replace(t.Text) + "' "
		case 7:
			s += ".\n"
		default:
			s += t.Text + " "
		}
	}
	return s, 0
}

// checkJoin holds Join of l against joined, and the tokens of what was joined against l.
func checkJoin(t *testing.T, l []api.Token) {
	t.Helper()
	b, e := Join(l)
	if want, wrong := joined(l); string(b) != want || e != wrong {
		t.Fatalf("Join(%+v) = %q, %d, not %q, %d", l, b, e, want, wrong)
	}
	if e != 0 {
		return
	}
	if again := All(b); !slices.Equal(kinds(again), kinds(l)) {
		t.Fatalf("Join(%+v) = %q, of which All is %+v", l, b, again)
	}
}

// checkAll holds All of b against chain, and against P7.3: that its tokens are in order, and, if none is bad, are joined and lexed as they were.
func checkAll(t *testing.T, b []byte) {
	t.Helper()
	l := All(b)
	if want := chain(b, 0); !slices.Equal(l, want) {
		t.Fatalf("All(%q) = %+v, not %+v", b, l, want)
	}
	end, bad := 0, false
	for _, k := range l {
		if k.From < end || k.To <= k.From || k.To > len(b) {
			t.Fatalf("All(%q) has %+v behind %d", b, k, end)
		}
		if n, e := layout.Skip(b[end:k.From]); n != k.From-end || e != api.OK {
			t.Fatalf("All(%q) has %+v behind %d, with more than layout between", b, k, end)
		}
		end, bad = k.To, bad || k.Kind == api.TkBad
	}
	if n, e := layout.Skip(b[end:]); end+n != len(b) || e != api.OK {
		t.Fatalf("All(%q) leaves %q", b, b[end:])
	}
	checkJoin(t, l)
	// A period next to what follows is a symbol, but behind it Join writes a blank.
	if _, e := Join(l); (e == api.OK) == (bad || slices.Contains(kinds(l), says(api.TkSymbol, "."))) {
		t.Fatalf("All(%q) = %+v, of which Join tells %d", b, l, e)
	}
}

// P7.1, P7.2: the example of the chapter.
func TestExample(t *testing.T) {
	l := All([]byte("X=1."))
	if want := []api.Token{
		{Kind: api.TkVar, From: 0, To: 1, Text: "X"},
		{Kind: api.TkSymbol, From: 1, To: 2, Text: "="},
		{Kind: api.TkInt, From: 2, To: 3, Text: "1"},
		{Kind: api.TkEnd, From: 3, To: 4, Text: "."},
	}; !slices.Equal(l, want) {
		t.Errorf("%+v", l)
	}
	if b, e := Join(l); string(b) != "X = 1 .\n" || e != api.OK {
		t.Errorf("%q, %d", b, e)
	}
}

// P7.1: tokens of all kinds, with their places, each behind the end of the one ahead; bad ones are told too, and what is behind them.
func TestAll(t *testing.T) {
	for _, c := range []struct {
		b    string
		want []api.Token
	}{
		{"", nil},
		{" \t\r\n% c\n/* /**/ */", nil},
		{"a", []api.Token{{Kind: 1, To: 1, Text: "a"}}},
		{"ab CD", []api.Token{{Kind: 1, To: 2, Text: "ab"}, {Kind: 3, From: 3, To: 5, Text: "CD"}}},
		{" 12ab'c'd ", []api.Token{{Kind: 4, From: 1, To: 3, Text: "12"}, {Kind: 1, From: 3, To: 5, Text: "ab"}, {Kind: 5, From: 5, To: 8, Text: "c"}, {Kind: 1, From: 8, To: 9, Text: "d"}}},
		{"'it''s'.%\n.", []api.Token{{Kind: 5, To: 7, Text: "it's"}, {Kind: 7, From: 7, To: 8, Text: "."}, {Kind: 7, From: 10, To: 11, Text: "."}}},
		{"a.b. ", []api.Token{{Kind: 1, To: 1, Text: "a"}, {Kind: 2, From: 1, To: 2, Text: "."}, {Kind: 1, From: 2, To: 3, Text: "b"}, {Kind: 7, From: 3, To: 4, Text: "."}}},
		{"((-))", []api.Token{{Kind: 6, To: 1, Text: "("}, {Kind: 6, From: 1, To: 2, Text: "("}, {Kind: 2, From: 2, To: 3, Text: "-"}, {Kind: 6, From: 3, To: 4, Text: ")"}, {Kind: 6, From: 4, To: 5, Text: ")"}}},
		{"\xc3\xa9=\xe2\x82\xac", []api.Token{{Kind: 1, To: 2, Text: "\xc3\xa9"}, {Kind: 2, From: 2, To: 3, Text: "="}, {Kind: 1, From: 3, To: 6, Text: "\xe2\x82\xac"}}},
		{"\x00\xffa", []api.Token{{Kind: 8, To: 1, Code: 11}, {Kind: 8, From: 1, To: 2, Code: 10}, {Kind: 1, From: 2, To: 3, Text: "a"}}},
		{"1 2147483648.", []api.Token{{Kind: 4, To: 1, Text: "1"}, {Kind: 8, From: 2, To: 12, Code: 4}, {Kind: 7, From: 12, To: 13, Text: "."}}},
		{"'a\nb", []api.Token{{Kind: 8, To: 2, Code: 12}, {Kind: 1, From: 3, To: 4, Text: "b"}}},
		{`'a\tb'`, []api.Token{{Kind: 8, To: 2, Code: 13}, {Kind: 2, From: 2, To: 3, Text: `\`}, {Kind: 1, From: 3, To: 5, Text: "tb"}, {Kind: 8, From: 5, To: 6, Code: 12}}},
		{"'\x01'a'", []api.Token{{Kind: 8, To: 1, Code: 11}, {Kind: 8, From: 1, To: 2, Code: 11}, {Kind: 5, From: 2, To: 5, Text: "a"}}},
		{"a /* b. /* c */", []api.Token{{Kind: 1, To: 1, Text: "a"}, {Kind: 8, From: 2, To: 15, Code: 14}}},
	} {
		l := All([]byte(c.b))
		if !slices.Equal(l, c.want) {
			t.Errorf("All(%q) = %+v, not %+v", c.b, l, c.want)
		}
		checkAll(t, []byte(c.b))
	}
	if l := All(nil); len(l) != 0 {
		t.Errorf("All(nil) = %+v", l)
	}
}

// P7.1, P7.3: all texts of a few bytes, one at least of each class.
func TestShortTexts(t *testing.T) {
	lists([]byte(hard), 4, func(b []byte) { checkAll(t, b) })
	lists([]byte("a. %\n/*"), 5, func(b []byte) { checkAll(t, b) })
	lists([]byte("'\\n\n a"), 6, func(b []byte) { checkAll(t, b) })
}

// P7.1, P7.3: every byte, beside tokens of each kind.
func TestEachByte(t *testing.T) {
	for i := range 256 {
		c := string([]byte{byte(i)})
		for _, s := range []string{c, c + c, "a" + c + "b", "X" + c + "1. ", "1" + c + "2", "+" + c + "-", "'" + c + "'", "'a'" + c + "'b'", "(" + c + ")", "." + c + ".", "/*" + c + "*/ a", "%" + c + "\na", "\xe2\x82" + c + "\xac"} {
			checkAll(t, []byte(s))
		}
	}
}

// P7.2: how each kind is written, and what stands behind it; where a token stood does not matter.
func TestJoin(t *testing.T) {
	for _, c := range []struct {
		l    []api.Token
		want string
	}{
		{nil, ""},
		{[]api.Token{}, ""},
		{[]api.Token{says(1, "a")}, "a "},
		{[]api.Token{says(1, "a"), says(1, "b"), says(3, "_"), says(3, "X\xc3\xa9")}, "a b _ X\xc3\xa9 "},
		{[]api.Token{says(7, ".")}, ".\n"},
		{[]api.Token{says(7, "."), says(7, "."), says(1, "a")}, ".\n.\na "},
		{[]api.Token{says(2, "+"), says(2, "-"), says(2, ".."), says(2, "+/*"), says(2, "*/")}, "+ - .. +/* */ "},
		{[]api.Token{says(2, "/"), says(2, "*")}, "/ * "},
		{[]api.Token{says(4, "1"), says(4, "2"), says(4, "007"), says(4, "2147483647")}, "1 2 007 2147483647 "},
		{[]api.Token{says(5, "a"), says(5, "b"), says(5, "")}, "'a' 'b' '' "},
		{[]api.Token{says(5, "it's"), says(5, "'"), says(5, `\`), says(5, "a\nb"), says(5, "% /* (")}, `'it''s' '''' '\\' 'a\nb' '% /* (' `},
		{[]api.Token{says(6, "("), says(6, ")"), says(6, "|")}, "( ) | "},
		{[]api.Token{{Kind: 3, From: 7, To: 3, Text: "X", Code: 99}, {Kind: 7, From: -1, To: -9, Text: "."}}, "X .\n"},
	} {
		if b, e := Join(c.l); string(b) != c.want || e != api.OK {
			t.Errorf("Join(%+v) = %q, %d, not %q", c.l, b, e, c.want)
		}
		checkJoin(t, c.l)
	}
}

// P7.2, R2: what would be lexed as something else is ErrArg, with no bytes, wherever it stands.
func TestNotJoined(t *testing.T) {
	for _, k := range []api.Token{
		says(1, ""), says(1, "A"), says(1, "_a"), says(1, "1"), says(1, "a b"), says(1, "a "), says(1, " a"), says(1, "a.b"), says(1, "a."), says(1, "'a'"), says(1, "+"), says(1, "a\xff"), says(1, "\xc3"), says(1, "a%"), says(1, "a/**/"), says(1, "("), says(1, "."),
		says(2, ""), says(2, "."), says(2, "a"), says(2, "+ -"), says(2, "+ "), says(2, "+a"), says(2, "/*"), says(2, "/*/"), says(2, "/**/"), says(2, "/**/+"), says(2, "%"), says(2, "+%"), says(2, "("), says(2, ". ."),
		says(3, ""), says(3, "a"), says(3, "\xc3\xa9"), says(3, "X Y"), says(3, "X\xff"), says(3, "X+"), says(3, "9"),
		says(4, ""), says(4, "a"), says(4, "1a"), says(4, "1 2"), says(4, "-1"), says(4, "+1"), says(4, "1.5"), says(4, "2147483648"), says(4, "02147483648"), says(4, "99999999999999999999"),
		says(5, "\x00"), says(5, "a\x1f"), says(5, "\t"), says(5, "\x7f"), says(5, "\xff"), says(5, "a\xc3"), says(5, "\xed\xa0\x80"),
		says(6, ""), says(6, "(("), says(6, "( )"), says(6, "a"), says(6, "'"), says(6, "."),
		says(7, ""), says(7, ".."), says(7, ". "), says(7, ".\n"), says(7, "a."), says(7, "a"), says(7, ". ."), says(7, ".% c"),
		says(8, ""), says(8, "\x00"), says(8, "a"), says(8, "'"), {Kind: 8, To: 1, Code: 11},
		says(0, ""), says(0, "a"), says(9, "a"), says(-1, "a"), says(99, "."), says(1<<32|1, "a"), {},
	} {
		for _, l := range [][]api.Token{{k}, {k, k}, {says(1, "a"), k}, {k, says(7, ".")}, {says(5, "'"), k, says(2, "+")}} {
			if b, e := Join(l); len(b) != 0 || e != api.ErrArg {
				t.Errorf("Join(%+v) = %q, %d", l, b, e)
			}
		}
	}
}

// P7.2: as many tokens, or the same bytes in all, do not do: each has to be of its own kind and say its own text.
func TestNotMadeGood(t *testing.T) {
	for _, l := range [][]api.Token{
		{says(1, "a b"), says(1, "")},
		{says(1, ""), says(1, "a b")},
		{says(2, "."), says(7, ".")},
		{says(7, "."), says(2, ".")},
		{says(2, "/*"), says(2, "*/")},
		{says(2, "/*"), says(2, "*/"), says(1, "a")},
		{says(1, "a"), says(1, "% c"), says(7, ".")},
		{says(7, "a"), says(1, ".")},
		{says(5, "\x00"), says(5, "a")},
		{says(1, "'a"), says(1, "b'")},
		{says(8, ""), says(1, "\x00a")},
		{says(1, "a"), says(8, "")},
	} {
		if b, e := Join(l); len(b) != 0 || e != api.ErrArg {
			t.Errorf("Join(%+v) = %q, %d", l, b, e)
		}
	}
}

// P7.2, P7.3: all lists of a few tokens, of each kind, numbers beside the kinds among them, and texts that are of it or of another one.
func TestShortLists(t *testing.T) {
	var pool, some []api.Token
	for kind := -1; kind <= 10; kind++ {
		for _, text := range []string{"", "a", "X", "+", ".", "..", "/*", "*/", "%", "1", "(", "'", "\n", " ", "a b", "\xc3\xa9", "\xff", "\x00"} {
			pool = append(pool, says(kind, text))
			if len(text) < 2 && strings.Contains("a./*%'\n", text) {
				some = append(some, says(kind, text))
			}
		}
	}
	lists(pool, 2, func(l []api.Token) { checkJoin(t, l) })
	lists(some, 3, func(l []api.Token) { checkJoin(t, l) })
	lists([]api.Token{says(1, "a"), says(2, "+"), says(2, "*/"), says(3, "_"), says(4, "0"), says(5, ""), says(5, "'\n"), says(6, "("), says(7, ".")}, 5, func(l []api.Token) { checkJoin(t, l) })
}

// P7.2: each text of a few bytes as a token of each kind.
func TestShortTokens(t *testing.T) {
	lists([]byte(hard), 4, func(b []byte) {
		for kind := range 10 {
			checkJoin(t, []api.Token{says(kind, string(b))})
		}
	})
}

// P7.1, P7.2: bytes beyond the end of b, and tokens beyond the end of l, which the capacity still has, do not count.
func TestWithinLength(t *testing.T) {
	whole := []byte(" ab\xc3\xa9X. 'it''s' /* c */ :- 2147483648 (\xe2\x82\xac). % d\n.. ")
	for i := range len(whole) + 1 {
		if l, alike := All(whole[:i]), All(bytes.Clone(whole[:i])); !slices.Equal(l, alike) {
			t.Errorf("All(%q) = %+v, not %+v", whole[:i], l, alike)
		}
	}
	l := []api.Token{says(1, "a"), says(7, "."), says(8, "")}
	if b, e := Join(l[:2]); string(b) != "a .\n" || e != api.OK {
		t.Errorf("%q, %d", b, e)
	}
}

// P7.1, P7.2, R1: however many tokens, and however long.
func TestLongTexts(t *testing.T) {
	const many = 1 << 16
	for _, c := range []struct {
		piece  string
		tokens int
	}{
		{"a ", many}, {"a", 1}, {"X=1. ", 4 * many}, {"(", many}, {"'a'b", 2 * many}, {"'", 1}, {"''''", 1}, {"+", 1}, {". ", many}, {".\n", many}, {"% c\n", 0}, {"/*", 1}, {"/**/", 0}, {"\x00", many}, {"\xff", many}, {"\xc3\xa9 ", many}, {"1", 1}, {"9999999999 ", many}, {"'a\n", many},
	} {
		b := []byte(strings.Repeat(c.piece, many))
		l := All(b)
		if len(l) != c.tokens {
			t.Errorf("%q so often: %d tokens, not %d", c.piece, len(l), c.tokens)
		}
		if c.tokens == 0 {
			continue
		}
		wrong := api.OK
		if l[0].Kind == api.TkBad {
			wrong = api.ErrArg
		}
		again, e := Join(l)
		if e != wrong || e == api.OK && !slices.Equal(kinds(All(again)), kinds(l)) {
			t.Errorf("%q so often: Join tells %d", c.piece, e)
		}
	}
}

// P7.2: numbers at the bound.
func TestNumbersAtTheBound(t *testing.T) {
	for n := api.MaxInt - 20; n <= api.MaxInt+20; n++ {
		for _, ahead := range []string{"", "0", "000000000000"} {
			s := ahead + strconv.Itoa(n)
			b, e := Join([]api.Token{says(4, s)})
			if n <= api.MaxInt && (string(b) != s+" " || e != api.OK) || n > api.MaxInt && (len(b) != 0 || e != api.ErrArg) {
				t.Errorf("Join of %s = %q, %d", s, b, e)
			}
		}
	}
}

// R6, R7: what is handed in is not changed, a second call tells the same, and what was told stays when the bytes, or the tokens, are written over.
func TestOwn(t *testing.T) {
	for _, s := range []string{"", "X=1. ", "'it''s'. a\xc3\xa9", "a /* b", "% c\n(1)", "\x00'a"} {
		b := []byte(s + "##")
		was := bytes.Clone(b)
		l := All(b[:len(s)])
		kept := slices.Clone(l)
		told, e := Join(l)
		if !bytes.Equal(b, was) || !slices.Equal(l, kept) {
			t.Errorf("%q: %q, %+v, not %+v", s, b, l, kept)
		}
		again := All(b[:len(s)])
		if other, f := Join(again); !slices.Equal(again, kept) || !bytes.Equal(other, told) || f != e {
			t.Errorf("%q: told anew: %+v, %q, %d", s, again, other, f)
		}
		for i := range b {
			b[i] = 'z'
		}
		if !slices.Equal(l, kept) {
			t.Errorf("%q: %+v, not %+v, when the bytes are written over", s, l, kept)
		}
		text := string(told)
		clear(l)
		if string(told) != text || !slices.Equal(again, kept) {
			t.Errorf("%q: %q, %+v, when the tokens are written over", s, told, again)
		}
	}
}

// R7: who appends to an answer does not write over what another one appended to it.
func TestAppended(t *testing.T) {
	for n := range 70 {
		l := All([]byte(strings.Repeat("a ", n)))
		one, two := append(l, says(1, "one")), append(l, says(1, "two"))
		if one[n].Text != "one" || two[n].Text != "two" {
			t.Errorf("%d tokens: %q, %q", n, one[n].Text, two[n].Text)
		}
		b, _ := Join(l)
		first, second := append(b, '1'), append(b, '2')
		if first[len(b)] != '1' || second[len(b)] != '2' {
			t.Errorf("%d tokens joined: %q, %q", n, first[len(b):], second[len(b):])
		}
	}
}
