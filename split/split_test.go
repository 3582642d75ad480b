package split_test

import (
	"bytes"
	"math"
	"math/rand/v2"
	"slices"
	"strings"
	"testing"

	"tmesis/api"
	"tmesis/lex"
	"tmesis/split"
)

// hard has a byte of each class, both of a sequence, the marks of a comment, and the period.
const hard = "aA1.*/'( %\n\xc3\xa9\x00"

// says is a token that tells only its kind and its text.
func says(kind int, text string) api.Token {
	return api.Token{Kind: kind, Text: text}
}

// piece is a piece of just these tokens.
func piece(l ...api.Token) api.Piece {
	return api.Piece{Tokens: l}
}

// lists calls do with all lists of at most most members of pool.
func lists[T any](pool []T, most int, do func(l []T)) {
	var more func(l []T)
	more = func(l []T) {
		do(l)
		if len(l) == most {
			return
		}
		for _, x := range pool {
			more(append(slices.Clone(l), x))
		}
	}
	more(nil)
}

// pieces is what Pieces has to tell of b: the piece of a token is numbered by how many ends stand ahead of it.
func pieces(b []byte) []api.Piece {
	all := lex.All(b)
	var out []api.Piece
	for i, t := range all {
		number := 0
		for _, u := range all[:i] {
			if u.Kind == 7 {
				number++
			}
		}
		if number == len(out) {
			out = append(out, api.Piece{From: t.From, First: i})
		}
		out[number].To = t.To
		out[number].Tokens = append(out[number].Tokens, t)
	}
	return out
}

// names is what Names has to tell of l: of all texts there are the ones that are told, each put ahead of the first one that is greater.
func names(l []api.Token) []string {
	var out []string
	for _, t := range l {
		if t.Kind != 1 && t.Kind != 2 && t.Kind != 6 || slices.Contains(out, t.Text) {
			continue
		}
		at := 0
		for at < len(out) && bytes.Compare([]byte(out[at]), []byte(t.Text)) < 0 {
			at++
		}
		out = slices.Insert(out, at, t.Text)
	}
	return out
}

// nest is what Nest has to tell of l: by how many the ones that open are more than the ones that shut, in the stretch of l in which that is most.
func nest(l []api.Token) int {
	most := 0
	for from := range l {
		more := 0
		for _, t := range l[from:] {
			switch t {
			case api.Token{Kind: 6, From: t.From, To: t.To, Text: "(", Code: t.Code}:
				more++
			case api.Token{Kind: 6, From: t.From, To: t.To, Text: ")", Code: t.Code}:
				more--
			}
			most = max(most, more)
		}
	}
	return most
}

// same tells whether p and q are the same piece.
func same(p, q api.Piece) bool {
	return p.From == q.From && p.To == q.To && p.First == q.First && slices.Equal(p.Tokens, q.Tokens)
}

// copied is l with lists of its own.
func copied(l []api.Piece) []api.Piece {
	l = slices.Clone(l)
	for i := range l {
		l[i].Tokens = slices.Clone(l[i].Tokens)
	}
	return l
}

// checkOf holds Names and Nest of p against names and nest.
func checkOf(t *testing.T, p api.Piece) {
	t.Helper()
	if l, want := split.Names(p), names(p.Tokens); !slices.Equal(l, want) {
		t.Fatalf("Names(%+v) = %q, not %q", p, l, want)
	}
	if n, want := split.Nest(p), nest(p.Tokens); n != want {
		t.Fatalf("Nest(%+v) = %d, not %d", p, n, want)
	}
}

// check holds Pieces of b against pieces, Names and Nest of each, and P10.3.
func check(t *testing.T, b []byte) {
	t.Helper()
	l := split.Pieces(b)
	if want := pieces(b); !slices.EqualFunc(l, want, same) {
		t.Fatalf("Pieces(%q) = %+v, not %+v", b, l, want)
	}
	var all []api.Token
	for _, p := range l {
		if p.First != len(all) || len(p.Tokens) == 0 {
			t.Fatalf("Pieces(%q) has %+v behind %d tokens", b, p, len(all))
		}
		all = append(all, p.Tokens...)
		checkOf(t, p)
	}
	if want := lex.All(b); !slices.Equal(all, want) {
		t.Fatalf("Pieces(%q) are of %+v, not %+v", b, all, want)
	}
}

// P10.1, P10.2: the example of the chapter.
func TestExample(t *testing.T) {
	l := split.Pieces([]byte("a. (b"))
	want := []api.Piece{
		{From: 0, To: 2, First: 0, Tokens: []api.Token{{Kind: 1, From: 0, To: 1, Text: "a"}, {Kind: 7, From: 1, To: 2, Text: "."}}},
		{From: 3, To: 5, First: 2, Tokens: []api.Token{{Kind: 6, From: 3, To: 4, Text: "("}, {Kind: 1, From: 4, To: 5, Text: "b"}}},
	}
	if !slices.EqualFunc(l, want, same) {
		t.Fatalf("%+v", l)
	}
	if n := split.Nest(l[1]); n != 1 {
		t.Errorf("Nest = %d", n)
	}
}

// P10.1: where pieces begin and end, and how many tokens stand ahead of each: of texts that end with an end or not, of ends alone, and of what looks like an end, but is none.
func TestPieces(t *testing.T) {
	for _, c := range []struct {
		b    string
		want [][4]int // From, To, First, and how many tokens
	}{
		{"", nil},
		{" \t\r\n", nil},
		{" % a. b.\n/* c. /* d. */ */", nil},
		{"a", [][4]int{{0, 1, 0, 1}}},
		{" a ", [][4]int{{1, 2, 0, 1}}},
		{"a.", [][4]int{{0, 2, 0, 2}}},
		{"a. ", [][4]int{{0, 2, 0, 2}}},
		{" a  . ", [][4]int{{1, 5, 0, 2}}},
		{".", [][4]int{{0, 1, 0, 1}}},
		{" . . .\n", [][4]int{{1, 2, 0, 1}, {3, 4, 1, 1}, {5, 6, 2, 1}}},
		{"a.\nb + c.\n\n  d.", [][4]int{{0, 2, 0, 2}, {3, 9, 2, 4}, {13, 15, 6, 2}}},
		{"a. b", [][4]int{{0, 2, 0, 2}, {3, 4, 2, 1}}},
		{"a. b c", [][4]int{{0, 2, 0, 2}, {3, 6, 2, 2}}},
		{"a.% b.\nc.", [][4]int{{0, 2, 0, 2}, {7, 9, 2, 2}}},
		{"a /* b. */ c.", [][4]int{{0, 13, 0, 3}}},
		{"a. % b", [][4]int{{0, 2, 0, 2}}},
		{"a.b. c", [][4]int{{0, 4, 0, 4}, {5, 6, 4, 1}}}, // the first period is a symbol
		{"a.. b.", [][4]int{{0, 6, 0, 4}}},               // .. is one
		{"a=. b.", [][4]int{{0, 6, 0, 4}}},               // so is =.
		{"'.' '. ' b. ", [][4]int{{0, 11, 0, 4}}},        // between quotes none is an end
		{"(a. b).", [][4]int{{0, 3, 0, 3}, {4, 7, 3, 3}}},
		{"a\x00.\xff b", [][4]int{{0, 6, 0, 5}}},
		{"\x00. \xff.", [][4]int{{0, 2, 0, 2}, {3, 5, 2, 2}}},
		{"a. 'b. ", [][4]int{{0, 2, 0, 2}, {3, 7, 2, 1}}}, // a quoted atom that does not end has the end in it
		{"a. 'b.\nc.", [][4]int{{0, 2, 0, 2}, {3, 9, 2, 3}}},
		{"a. b /* c. d. ", [][4]int{{0, 2, 0, 2}, {3, 14, 2, 2}}}, // a comment that does not end goes on as far as the text
		{"a. /* b. ", [][4]int{{0, 2, 0, 2}, {3, 9, 2, 1}}},
		{"a. 2147483648. X.", [][4]int{{0, 2, 0, 2}, {3, 14, 2, 2}, {15, 17, 4, 2}}},
		{"\xc3\xa9. \xc3\xa9.", [][4]int{{0, 3, 0, 2}, {4, 7, 2, 2}}}, // places are bytes
	} {
		var got [][4]int
		for _, p := range split.Pieces([]byte(c.b)) {
			got = append(got, [4]int{p.From, p.To, p.First, len(p.Tokens)})
		}
		if !slices.Equal(got, c.want) {
			t.Errorf("Pieces(%q) are %v, not %v", c.b, got, c.want)
		}
		check(t, []byte(c.b))
	}
	if l := split.Pieces(nil); len(l) != 0 {
		t.Errorf("Pieces(nil) = %+v", l)
	}
}

// P10.1, P10.3: all texts of a few bytes, one at least of each class, and of what ends and brackets are made of.
func TestShortTexts(t *testing.T) {
	lists([]byte(hard), 4, func(b []byte) { check(t, b) })
	lists([]byte("a. %\n"), 6, func(b []byte) { check(t, b) })
	lists([]byte("().' "), 6, func(b []byte) { check(t, b) })
	lists([]string{"a", "+ ", ". ", ".", "(", ")"}, 6, func(l []string) { check(t, []byte(strings.Join(l, ""))) })
}

// P10.1, P10.2: every byte, beside ends and brackets.
func TestEachByte(t *testing.T) {
	for i := range 256 {
		c := string([]byte{byte(i)})
		for _, s := range []string{c, c + ". " + c, "a." + c + "b.", "(" + c + "(" + c + ")", "a" + c + ". b" + c + ".", "'" + c + ".' b. c", "(" + c + ". (("} {
			check(t, []byte(s))
		}
	}
}

// P10.1, P10.3: long texts, some of them beyond MaxText, of many pieces, of one, and of whatever comes.
func TestLongTexts(t *testing.T) {
	for _, c := range []struct {
		each             string
		times            int
		pieces, ofTokens int // how many pieces, and of how many tokens each but the last one
	}{
		{".\n", 1 << 15, 1 << 15, 1},
		{"a + (b). ", 1 << 14, 1 << 14, 6},
		{"a ", 1 << 16, 1, 1 << 16},
		{"( ", 1 << 16, 1, 1 << 16},
		{"a.", 1 << 15, 1, 1 << 16}, // only the last period is an end
	} {
		l := split.Pieces([]byte(strings.Repeat(c.each, c.times)))
		if len(l) != c.pieces {
			t.Fatalf("%d times %q: %d pieces", c.times, c.each, len(l))
		}
		for i, p := range l {
			if len(p.Tokens) != c.ofTokens || p.First != i*c.ofTokens {
				t.Fatalf("%d times %q: piece %d has %d tokens behind %d", c.times, c.each, i, len(p.Tokens), p.First)
			}
		}
	}
	words := []string{"a", "B", "+", ":-", "12", "'q.'", "(", ")", "[", ",", ". ", ".\n", ".", " ", "% c.\n", "/* ( . */", "\x00", "\xff", "\xc3\xa9", "'"}
	for seed := range uint64(40) {
		c := rand.New(rand.NewPCG(seed, 10))
		var b []byte
		for len(b) < 600 {
			b = append(b, words[c.IntN(len(words))]...)
		}
		check(t, b)
	}
}

// P10.2: names of three kinds, no others; rising byte by byte, each once, wherever they stand.
func TestNames(t *testing.T) {
	for _, c := range []struct {
		b    string
		want []string
	}{
		{"a", []string{"a"}},
		{"a a a.", []string{"a"}},
		{"b a c a b.", []string{"a", "b", "c"}},
		{"a + b * a + c.", []string{"*", "+", "a", "b", "c"}},
		{"X _ Y1.", nil},
		{"1 22 333", nil},
		{"'a' '+' '('.", nil},
		{"'a' a 'b' B.", []string{"a"}},
		{".", nil},
		{"a.b.", []string{".", "a", "b"}}, // the first period is a symbol
		{"(),|;[]{}", []string{"(", ")", ",", ";", "[", "]", "{", "|", "}"}},
		{"((a))((a))", []string{"(", ")", "a"}},
		{":- op(3, yfx, +).", []string{"(", ")", "+", ",", ":-", "op", "yfx"}},
		{"aB ab a ab0 a0 aa", []string{"a", "a0", "aB", "aa", "ab", "ab0"}},
		{"z \xc3\xa9 z\xc3\xa9 \xe2\x82\xac zz", []string{"z", "zz", "z\xc3\xa9", "\xc3\xa9", "\xe2\x82\xac"}},
		{"\xf0\x9f\x98\x80 \xef\xbf\xbd", []string{"\xef\xbf\xbd", "\xf0\x9f\x98\x80"}}, // in UTF-16 the other one would be ahead
		{"- -- --- -", []string{"-", "--", "---"}},
		{"\x00 \xff 2147483648 'a", nil},
		{"\x00 a \xff b", []string{"a", "b"}},
		{"if a then b else if c", []string{"a", "b", "c", "else", "if", "then"}},
	} {
		l := split.Pieces([]byte(c.b))
		if len(l) != 1 {
			t.Fatalf("Pieces(%q) = %+v", c.b, l)
		}
		if n := split.Names(l[0]); !slices.Equal(n, c.want) {
			t.Errorf("Names of %q = %q, not %q", c.b, n, c.want)
		}
	}
}

// P10.2: how deep brackets go: side by side, in one another, not shut, with nothing to shut, and what is no bracket.
func TestNest(t *testing.T) {
	for s, want := range map[string]int{
		"a.":                   0,
		"()":                   1,
		"(a)":                  1,
		"(a)(b)(c).":           1,
		"((a)(b))":             2,
		"(a)((b))(c)":          2,
		"(((":                  3,
		"((a)":                 2,
		"(a((b":                3,
		")":                    0,
		")))":                  0,
		")(":                   1,
		"))((":                 2,
		")))(a)":               1, // what shut nothing is not made up for
		"(a)))((b":             2,
		"(()))(":               2,
		"(()(":                 2,
		"(()((":                3,
		"()(()(()))":           3,
		"[{(a)}]":              1,
		"[a] {b} ||":           0,
		"[[[{{{":               0,
		"'(' '((' '('":         0,
		"( ')' (":              2,
		"('('":                 1,
		"/* ( */ a % ((":       0,
		"( % )\n (":            2,
		"(\x00(\xff(":          3,
		"((((((((a)))))))).":   8,
		"(((((((((a))))))))).": 9, // beyond MaxNest
	} {
		l := split.Pieces([]byte(s))
		if len(l) != 1 {
			t.Fatalf("Pieces(%q) = %+v", s, l)
		}
		if n := split.Nest(l[0]); n != want {
			t.Errorf("Nest of %q = %d, not %d", s, n, want)
		}
	}
	l := split.Pieces([]byte("((a. (b)). (((c"))
	for i, want := range []int{2, 1, 3} { // each piece begins anew
		if n := split.Nest(l[i]); n != want {
			t.Errorf("Nest of piece %d = %d, not %d", i, n, want)
		}
	}
}

// P10.2: a piece whose brackets are many; how deep they go has no bound.
func TestGreatNest(t *testing.T) {
	const many = 1 << 17
	open, shut := slices.Repeat([]api.Token{says(6, "(")}, many), slices.Repeat([]api.Token{says(6, ")")}, many)
	for _, c := range []struct {
		l    []api.Token
		want int
	}{
		{open, many},
		{shut, 0},
		{slices.Concat(open, shut), many},
		{slices.Concat(shut, open), many},
		{slices.Concat(open, shut, open, open, shut), 2 * many},
		{slices.Concat(open, shut, shut, open), many},
		{slices.Repeat([]api.Token{says(6, "("), says(6, ")")}, many), 1},
	} {
		if n := split.Nest(piece(c.l...)); n != c.want {
			t.Errorf("Nest of %d tokens = %d, not %d", len(c.l), n, c.want)
		}
	}
}

// P10.2, R1: pieces as no text has them: tokens of any kind, also of one that there is not, that say whatever, more of them behind an end.
func TestAnyTokens(t *testing.T) {
	var pool, some []api.Token
	for _, kind := range []int{math.MinInt, -6, -1, 0, 1, 2, 3, 4, 5, 6, 7, 8, 9, 14, 1<<32 | 6, math.MaxInt} {
		for _, text := range []string{"", "(", ")", "((", "( ", "a", "A", "\xff", "\x00"} {
			pool = append(pool, says(kind, text))
			if kind >= 1 && kind <= 8 && (text == "(" || text == ")") {
				some = append(some, says(kind, text))
			}
		}
	}
	lists(pool, 2, func(l []api.Token) { checkOf(t, piece(l...)) })
	lists(some, 4, func(l []api.Token) { checkOf(t, piece(l...)) })
	lists([]api.Token{says(6, "("), says(6, ")"), says(7, "."), says(1, "(")}, 7, func(l []api.Token) { checkOf(t, piece(l...)) })
	for seed := range uint64(2000) {
		c := rand.New(rand.NewPCG(seed, 10))
		var l []api.Token
		for range c.IntN(12) {
			k := pool[c.IntN(len(pool))]
			k.From, k.To, k.Code = int(c.Uint64()), int(c.Uint64()), api.Errno(c.Uint64())
			l = append(l, k)
		}
		checkOf(t, api.Piece{From: int(c.Uint64()), To: int(c.Uint64()), First: int(c.Uint64()), Tokens: l})
	}
	if l, n := split.Names(api.Piece{}), split.Nest(api.Piece{}); len(l) != 0 || n != 0 {
		t.Errorf("no tokens: %q, %d", l, n)
	}
	if l := split.Names(piece(says(1, ""), says(2, ""), says(6, "\xff"))); !slices.Equal(l, []string{"", "\xff"}) {
		t.Errorf("%q", l)
	}
}

// R6, R7: what is handed in is not changed, a second call tells the same, and what was told stays when the bytes are written over.
func TestOwn(t *testing.T) {
	for _, s := range []string{"", "b a. c", "(a + b) + b.\n'x'. z y x. (", "\x00. a /* b"} {
		b := []byte(s + "##")
		was := bytes.Clone(b)
		l := split.Pieces(b[:len(s)])
		kept := copied(l)
		for range 2 {
			for i, p := range l {
				checkOf(t, p)
				if !same(p, kept[i]) {
					t.Fatalf("%q: piece %d is %+v, not %+v, when it was asked", s, i, p, kept[i])
				}
			}
			if !bytes.Equal(b, was) || !slices.EqualFunc(split.Pieces(b[:len(s)]), kept, same) {
				t.Fatalf("%q: %q, %+v", s, b, split.Pieces(b[:len(s)]))
			}
		}
		for i := range b {
			b[i] = 'z'
		}
		if !slices.EqualFunc(l, kept, same) {
			t.Errorf("%q: %+v, not %+v, when the bytes are written over", s, l, kept)
		}
	}
}

// R7: pieces do not share tokens: what is written to one, or behind its last token, is not seen in another one, nor in those of another call.
func TestUnshared(t *testing.T) {
	b := []byte("a + b. (c). . d. e f g. h")
	one, two := split.Pieces(b), split.Pieces(b)
	kept := copied(one)
	for i := range one {
		_ = append(one[i].Tokens, slices.Repeat([]api.Token{says(8, "#")}, 20)...)
		clear(one[i].Tokens[:cap(one[i].Tokens)])
		if !slices.EqualFunc(one[i+1:], kept[i+1:], same) || !slices.EqualFunc(two, kept, same) {
			t.Fatalf("%+v, %+v, when piece %d is written over", one, two, i)
		}
	}
	p := two[4]
	names := split.Names(p)
	for i := range names {
		names[i] = "#"
	}
	if !same(p, kept[4]) || !slices.Equal(split.Names(p), []string{"e", "f", "g"}) {
		t.Errorf("%+v, %q, when its names are written over", p, split.Names(p))
	}
	names = split.Names(p)
	clear(p.Tokens)
	if !slices.Equal(names, []string{"e", "f", "g"}) {
		t.Errorf("%q, when the tokens are written over", names)
	}
}
