package decl_test

import (
	"encoding/hex"
	"math/rand/v2"
	"regexp"
	"slices"
	"strconv"
	"strings"
	"testing"

	"tmesis/api"
	"tmesis/decl"
	"tmesis/lex"
	"tmesis/oper"
	"tmesis/shape"
	"tmesis/split"
)

// tok is a token that tells only its kind and its text.
func tok(kind int, text string) api.Token {
	return api.Token{Kind: kind, Text: text}
}

// piece is a piece of just these tokens.
func piece(l ...api.Token) api.Piece {
	return api.Piece{Tokens: l}
}

// The directives of the four rows, token by token.
var (
	operOf  = []api.Token{tok(2, ":-"), tok(1, "op"), tok(6, "("), tok(4, "3"), tok(6, ","), tok(1, "yfx"), tok(6, ","), tok(2, "+"), tok(6, ")"), tok(7, ".")}
	edgeOf  = []api.Token{tok(2, ":-"), tok(1, "edge"), tok(6, "("), tok(4, "7"), tok(6, ","), tok(4, "3"), tok(6, ")"), tok(7, ".")}
	beginOf = []api.Token{tok(2, ":-"), tok(1, "begin"), tok(7, ".")}
	endOf   = []api.Token{tok(2, ":-"), tok(1, "end"), tok(7, ".")}
	rows    = [][]api.Token{operOf, edgeOf, beginOf, endOf}
)

// texts is texts that a token may have: those that the rows name, ones near to them, and others.
var texts = []string{
	":-", "op", "edge", "begin", "end", "(", ")", ",", ".", "left", "right", "non", "xfx", "fy", "yf",
	":", "-", ":--", "Op", "ope", "o", "begin ", " end", "ends", "[", "]", ";", "..", "", "_", "0", "3", "10", "x", "+", "if_then_", "\xff", "\x00",
}

// operWith is the first row with another number, word and name in it.
func operWith(number, word string, name api.Token) api.Piece {
	l := slices.Clone(operOf)
	l[3].Text, l[5].Text, l[7] = number, word, name
	return piece(l...)
}

// operDecl and dropDecl are what directives say of operators.
func operDecl(pattern string, group, assoc int) api.Decl {
	return api.Decl{Kind: 1, Oper: api.Oper{Pattern: pattern, Group: group, Assoc: assoc}}
}

func dropDecl(pattern string) api.Decl {
	return api.Decl{Kind: 2, Oper: api.Oper{Pattern: pattern}}
}

// spelt is the tokens of l as one text of kinds and of bytes in hexadecimal, so that rows can be told as patterns of texts.
func spelt(l []api.Token) string {
	var b strings.Builder
	for _, t := range l {
		b.WriteString("<" + strconv.Itoa(t.Kind) + ":" + hex.EncodeToString([]byte(t.Text)) + ">")
	}
	return b.String()
}

// speltRow is a row as such a pattern. Its words are told by their kind, a colon, and their text.
func speltRow(words ...string) *regexp.Regexp {
	free := map[string]string{"N": "<4:([0-9a-f]*)>", "A": "<1:([0-9a-f]*)>", "Q": "<[125]:([0-9a-f]*)>", "7:.": "<7:[0-9a-f]*>"}
	var b strings.Builder
	for _, w := range words {
		if form, ok := free[w]; ok {
			b.WriteString(form)
			continue
		}
		b.WriteString("<" + w[:2] + hex.EncodeToString([]byte(w[2:])) + ">")
	}
	return regexp.MustCompile("^" + b.String() + "$")
}

var (
	operRow  = speltRow("2::-", "1:op", "6:(", "N", "6:,", "A", "6:,", "Q", "6:)", "7:.")
	edgeRow  = speltRow("2::-", "1:edge", "6:(", "N", "6:,", "N", "6:)", "7:.")
	beginRow = speltRow("2::-", "1:begin", "7:.")
	endRow   = speltRow("2::-", "1:end", "7:.")
)

// free is the texts of the tokens that row leaves free in l, and whether l is of it.
func free(row *regexp.Regexp, l []api.Token) ([]string, bool) {
	found := row.FindStringSubmatch(spelt(l))
	var out []string
	for i, x := range found {
		if b, err := hex.DecodeString(x); i > 0 && err == nil {
			out = append(out, string(b))
		}
	}
	return out, found != nil
}

// number is that of the digits with which text begins: 0 if there are none, or if it is above 2147483647.
func number(text string) int {
	rest := strings.TrimLeft(text, "0123456789")
	n, err := strconv.ParseInt(text[:len(text)-len(rest)], 10, 32)
	if err != nil {
		return 0
	}
	return int(n)
}

// ofOper is what Of has to tell of the first row.
func ofOper(group int, word, name string) (api.Decl, api.Errno) {
	o := api.Oper{Pattern: name, Group: group}
	if i := slices.Index([]string{"non", "left", "right"}, word); i >= 0 {
		o.Assoc = i
	} else {
		pattern, assoc, code := oper.Simple(word, name)
		if code != 0 {
			return api.Decl{}, code
		}
		o.Pattern, o.Assoc = pattern, assoc
	}
	_, code := shape.Of(o.Pattern)
	switch {
	case group == 0 && code != 0:
		return api.Decl{}, 23
	case group == 0:
		return dropDecl(o.Pattern), 0
	case oper.May(o) != 0:
		return api.Decl{}, oper.May(o)
	}
	return api.Decl{Kind: 1, Oper: o}, 0
}

// wanted is what Of has to tell of l.
func wanted(l []api.Token) (api.Decl, api.Errno) {
	if x, ok := free(operRow, l); ok {
		return ofOper(number(x[0]), x[1], x[2])
	}
	if x, ok := free(edgeRow, l); ok {
		return api.Decl{Kind: 3, G: number(x[0]), H: number(x[1])}, 0
	}
	if _, ok := free(beginRow, l); ok {
		return api.Decl{Kind: 4}, 0
	}
	if _, ok := free(endRow, l); ok {
		return api.Decl{Kind: 5}, 0
	}
	return api.Decl{}, 20
}

// check holds Is and Of of p against what they have to tell, and p against what it was, and tells what Of told.
func check(t *testing.T, p api.Piece) (api.Decl, api.Errno) {
	t.Helper()
	before := slices.Clone(p.Tokens)
	want, code := wanted(p.Tokens)
	d, e := decl.Of(p)
	if d != want || e != code {
		t.Errorf("Of(%+v) = %+v, %d, not %+v, %d", p, d, e, want, code)
	}
	if is := strings.HasPrefix(spelt(p.Tokens), "<2:3a2d>"); decl.Is(p) != is {
		t.Errorf("Is(%+v) is not %t", p, is)
	}
	if again, f := decl.Of(p); again != d || f != e {
		t.Errorf("Of(%+v) = %+v, %d, and then %+v, %d", p, d, e, again, f)
	}
	if !slices.Equal(p.Tokens, before) {
		t.Errorf("%+v has become %+v", before, p.Tokens)
	}
	return d, e
}

// told holds what Of tells of p against a value that is written out, besides.
func told(t *testing.T, p api.Piece, want api.Decl, code api.Errno) {
	t.Helper()
	if d, e := check(t, p); d != want || e != code {
		t.Errorf("Of(%s) = %+v, %d, not %+v, %d", spelt(p.Tokens), d, e, want, code)
	}
}

// P15.1: which clauses are directives: by their first token alone, and by its kind and its text.
func TestIs(t *testing.T) {
	for s, want := range map[string]bool{
		":- op(3, yfx, +).": true, ":- begin.": true, ":- nothing of that sort": true, ":-": true, ":- :-": true, ":-(": true,
		" /* c */ :- % d\n end .": true, ":-.": false, ":- .": true, ":-a": true, ":-'": true,
		"": false, "a :- b.": false, ". :- begin.": false, ": - begin.": false, "':-' begin.": false, "- begin.": false, ":-- begin.": false, ":-:- end.": false, "\x00:- end.": false, "(:- end).": false,
	} {
		if got := decl.Is(piece(lex.All([]byte(s))...)); got != want {
			t.Errorf("Is of %q is %t", s, got)
		}
	}
	for kind := -2; kind < 12; kind++ {
		for _, text := range texts {
			for _, more := range [][]api.Token{nil, {tok(2, ":-")}, {tok(1, "begin"), tok(7, ".")}} {
				p := piece(append([]api.Token{tok(kind, text)}, more...)...)
				if got := decl.Is(p); got != (kind == api.TkSymbol && text == ":-") {
					t.Errorf("Is(%+v) is %t", p, got)
				}
				check(t, p)
			}
		}
	}
	if decl.Is(api.Piece{}) || decl.Is(api.Piece{From: 1, To: 9, First: 3, Tokens: []api.Token{}}) {
		t.Error("a clause without tokens is a directive")
	}
}

// P15.2, P15.3: the chapter's examples, and one clause and more of each row.
func TestTable(t *testing.T) {
	for s, want := range map[string]api.Decl{
		":- op(3, yfx, +).":                             operDecl("_+_", 3, 1),
		":- op(0, non, 'if_then_').":                    dropDecl("if_then_"),
		":-op(1,xfx,=).":                                operDecl("_=_", 1, 0),
		":- op(9, xfy, ^).":                             operDecl("_^_", 9, 2),
		":- op(5, fx, -).":                              operDecl("-_", 5, 0),
		":- op(6, fy, not).":                            operDecl("not_", 6, 2),
		":- op(7, xf, '!').":                            operDecl("_!", 7, 0),
		":- op(8, yf, !).":                              operDecl("_!", 8, 1),
		":- op(2, xfx, '[').":                           operDecl("_[_", 2, 0),
		":- op(4, right, 'if_then_').":                  operDecl("if_then_", 4, 2),
		":- op(4, left, '_[_]').":                       operDecl("_[_]", 4, 1),
		":- op(4, non, '[_]').":                         operDecl("[_]", 4, 0),
		":- op(4, non, a_).":                            operDecl("a_", 4, 0),
		":- op(4, right, a_b_).":                        operDecl("a_b_", 4, 2),
		":- op(009, non, a_b).":                         operDecl("a_b", 9, 0),
		":- op(1, xfx, left).":                          operDecl("_left_", 1, 0),
		":- op(1, fx, op).":                             operDecl("op_", 1, 0),
		":- op(1, left, '_\xc3\xa9').":                  operDecl("_\xc3\xa9", 1, 1),
		":- op(000, fy, not).":                          dropDecl("not_"),
		":- op(0, right, '_!').":                        dropDecl("_!"), // how it leans is not asked
		":- op(0, left, a_b).":                          dropDecl("a_b"),
		":- edge(7, 3).":                                {Kind: 3, G: 7, H: 3},
		":- edge(3, 3).":                                {Kind: 3, G: 3, H: 3},
		":- edge(0, 00).":                               {Kind: 3},
		":- edge(2147483647, 010).":                     {Kind: 3, G: 1<<31 - 1, H: 10},
		":- begin.":                                     {Kind: 4},
		":-end.":                                        {Kind: 5},
		"  :-\tbegin % c\n.%":                           {Kind: 4},
		"/**/:- /**/edge/**/(/**/1/**/,/**/2/**/)/**/.": {Kind: 3, G: 1, H: 2},
	} {
		told(t, piece(lex.All([]byte(s))...), want, api.OK)
	}
}

// P15.3, R2, R3: what is wrong; of several the first one that the chapter names.
func TestWrong(t *testing.T) {
	for s, want := range map[string]api.Errno{
		"": 20, ".": 20, "a.": 20, ":-": 20, ":- .": 20, ":- begin": 20, ":- end": 20, ":- a.": 20, ":- begin.. ": 20,
		"begin.": 20, "- begin.": 20, ":- begin begin.": 20, ":- begin end.": 20, ":- begin().": 20, ":- Begin.": 20, ":- 'begin'.": 20, ":- (begin).": 20, ":- begin :- end.": 20, ":- :- end.": 20,
		":- op.": 20, ":- op().": 20, ":- op(3).": 20, ":- op(3, yfx).": 20, ":- op(3, yfx, +, -).": 20, ":- op(3, yfx, +,).": 20, ":- op 3, yfx, + .": 20, ":- op(3 yfx +).": 20, ":- op(3; yfx; +).": 20, ":- op[3, yfx, +].": 20,
		":- op(3, yfx, +)": 20, ":- op(3, yfx, +": 20, ":- op(3, yfx, +) a.": 20, ":- 'op'(3, yfx, +).": 20, ":- Op(3, yfx, +).": 20, ":- ops(3, yfx, +).": 20, ":- o(3, yfx, +).": 20,
		":- op(yfx, 3, +).": 20, ":- op(X, yfx, +).": 20, ":- op(-3, yfx, +).": 20, ":- op('3', yfx, +).": 20, ":- op(3x, yfx, +).": 20, ":- op(2147483648, yfx, +).": 20,
		":- op(3, 'yfx', +).": 20, ":- op(3, Yfx, +).": 20, ":- op(3, 3, +).": 20, ":- op(3, +, +).": 20,
		":- op(3, yfx, X).": 20, ":- op(3, yfx, 3).": 20, ":- op(3, yfx, ().": 20, ":- op(3, yfx, [).": 20, ":- op(3, yfx, ,).": 20, ":- op(3, yfx, (+)).": 20, ":- op(3, left, _+_).": 20, ":- op(4, left, _a).": 20, ":- op(3, yfx, 'a).": 20, ":- op(3, yfx, \x00).": 20,
		":- edge.": 20, ":- edge(7).": 20, ":- edge(7, 3, 1).": 20, ":- edge(7 3).": 20, ":- edge(7, a).": 20, ":- edge(a, 3).": 20, ":- edge(7, '3').": 20, ":- edge(7, 3)": 20, ":- edge(7, 2147483648).": 20, ":- 'edge'(7, 3).": 20, ":- edge(7, -3).": 20,
		":- op(3, zzz, +).": 22, ":- op(3, none, +).": 22, ":- op(3, lefts, '_+_').": 22, ":- op(3, op, +).": 22, ":- op(0, zzz, +).": 22, ":- op(10, zzz, 'a b').": 22, ":- op(3, zzz, 'a_b').": 22, ":- op(3, xfz, '').": 22,
		":- op(3, xfx, 'a_b').": 23, ":- op(3, fy, '_').": 23, ":- op(3, xfx, '').": 23, ":- op(3, xfx, 'a b').": 23, ":- op(3, xfx, 'X').": 23, ":- op(3, xfx, '(').": 23, ":- op(3, xfx, :-).": 23, ":- op(3, xfx, ',').": 23, ":- op(3, xfx, '\\n').": 23,
		":- op(10, xfx, 'a_b').": 23, ":- op(0, xfx, 'a_b').": 23, ":- op(0, xfx, '').": 23, ":- op(0, xfx, 'X').": 23, ":- op(0, xfx, :-).": 23,
		":- op(3, left, +).": 23, ":- op(3, non, a).": 23, ":- op(3, right, '').": 23, ":- op(3, left, '_').": 23, ":- op(10, left, +).": 23, ":- op(0, left, +).": 23, ":- op(0, non, '').": 23, ":- op(0, right, 'a__b').": 23, ":- op(3, right, 'a_b_c_d_e_').": 23,
		":- op(10, xfx, +).": 21, ":- op(10, non, '_+_').": 21, ":- op(2147483647, fy, -).": 21, ":- op(10, left, 'a_').": 21, ":- op(11, right, '_a').": 21,
		":- op(3, left, 'a_').": 24, ":- op(3, right, '_a').": 24, ":- op(3, left, '[_]').": 24, ":- op(9, right, '[_]').": 24, ":- op(1, left, if_then_).": 24,
	} {
		told(t, piece(lex.All([]byte(s))...), api.Decl{}, want)
	}
}

// each calls do with every token of a kind that there is, or is next to one, and of a text of texts.
func each(do func(api.Token)) {
	for kind := range 10 {
		for _, text := range texts {
			do(tok(kind, text))
		}
	}
}

// P15.2: each row with one token in place of another, one more, one less, and two that have changed places.
func TestRows(t *testing.T) {
	for _, row := range rows {
		if _, e := check(t, piece(row...)); e != api.OK {
			t.Errorf("Of(%+v): %d", row, e)
		}
		for i := range row {
			each(func(x api.Token) {
				l := slices.Clone(row)
				l[i] = x
				check(t, piece(l...))
				check(t, piece(slices.Insert(slices.Clone(row), i, x)...))
			})
			_, e := check(t, piece(slices.Delete(slices.Clone(row), i, i+1)...))
			_, f := check(t, piece(slices.Insert(slices.Clone(row), i, row[i])...))
			_, g := check(t, piece(row[:i]...))
			if e != api.ErrDirective || f != api.ErrDirective || g != api.ErrDirective {
				t.Errorf("Of of %+v, with token %d left out, twice, and the last one: %d, %d, %d", row, i, e, f, g)
			}
			for k := range i {
				l := slices.Clone(row)
				l[i], l[k] = l[k], l[i]
				check(t, piece(l...))
			}
		}
		each(func(x api.Token) {
			if _, e := check(t, piece(append(slices.Clone(row), x)...)); e != api.ErrDirective {
				t.Errorf("Of of %+v with %+v behind it: %d", row, x, e)
			}
		})
	}
}

// P15.2: which kinds of tokens may stand where a row leaves the text free, and that no text is asked of the end.
func TestKinds(t *testing.T) {
	for i, kinds := range map[int][]int{3: {4}, 5: {1}, 7: {1, 2, 5}, 9: {7}} {
		for kind := -2; kind < 12; kind++ {
			l := slices.Clone(operOf)
			l[i].Kind = kind
			if _, e := check(t, piece(l...)); (e == api.OK) != slices.Contains(kinds, kind) {
				t.Errorf("Of(%+v): %d", l, e)
			}
		}
	}
	for _, text := range append(texts, strings.Repeat(".", 1000)) {
		for i, want := range []api.Decl{operDecl("_+_", 3, 1), {Kind: 3, G: 7, H: 3}, {Kind: 4}, {Kind: 5}} {
			l := slices.Clone(rows[i])
			l[len(l)-1].Text = text
			told(t, piece(l...), want, 0)
		}
	}
}

// P15.2: neither the places of tokens nor their codes are asked, nor those of the piece.
func TestPlaces(t *testing.T) {
	for i, want := range []api.Decl{operDecl("_+_", 3, 1), {Kind: 3, G: 7, H: 3}, {Kind: 4}, {Kind: 5}} {
		l := slices.Clone(rows[i])
		for k := range l {
			l[k].From, l[k].To, l[k].Code = 1000-k, -5*k, api.Errno(k)
		}
		told(t, api.Piece{From: 9, To: -9, First: 1 << 40, Tokens: l}, want, 0)
	}
}

// P15.2: what a number is, whatever is handed in as its text: 0, if digits.Take tells an error.
func TestNumbers(t *testing.T) {
	numbers := map[string]int{
		"0": 0, "00": 0, "1": 1, "01": 1, "9": 9, "0009": 9, "10": 10, "010": 10, "11": 11, "99": 99, "256": 256, "257": 257, "65537": 65537,
		"2147483646": 1<<31 - 2, "2147483647": 1<<31 - 1, "002147483647": 1<<31 - 1, "2147483648": 0, "4294967299": 0, "9223372036854775807": 0, "9223372036854775808": 0, "18446744073709551619": 0,
		strings.Repeat("9", 1<<16): 0, strings.Repeat("0", 1<<16) + "7": 7,
		"": 0, "x": 0, "x3": 0, " 3": 0, "-3": 0, "+3": 0, "3x": 3, "3.5": 3, "3 4": 3, "4_": 4, "\xff": 0, "\xd9\xa3": 0, "0x7": 0, "1e5": 1,
	}
	for text, n := range numbers {
		for other, m := range numbers {
			l := slices.Clone(edgeOf)
			l[3].Text, l[5].Text = text, other
			if d, e := decl.Of(piece(l...)); d != (api.Decl{Kind: 3, G: n, H: m}) || e != api.OK {
				t.Errorf("edge of %.20q, %.20q: %+v, %d", text, other, d, e)
			}
		}
		want, code := operDecl("_+_", n, 1), api.OK
		switch {
		case n == 0:
			want = dropDecl("_+_")
		case n > 9:
			want, code = api.Decl{}, api.ErrGroup
		}
		told(t, operWith(text, "yfx", tok(2, "+")), want, code)
		told(t, operWith(text, "left", tok(5, "_+_")), want, code)
	}
}

// P15.2, P15.3: each word with each name, in groups that there are, and that there are not, and in none; a name's kind does not matter.
func TestWords(t *testing.T) {
	words := []string{
		"left", "right", "non", "xfx", "xfy", "yfx", "fx", "fy", "xf", "yf",
		"", "l", "lef", "leftx", "Left", "LEFT", " left", "left ", "none", "no", "yfy", "f", "x", "op", "0", "\xff", "_", "yf_", "AsLeft", "left\x00",
	}
	names := []string{
		"", "_", "__", "+", "_+_", "_+", "+_", "a", "a_", "_a", "_a_", "if_then_", "if_then_else_", "[_]", "_[_]", "a__b", "a b", "a_b_c_d", "a_b_c_d_e", "_a_b_c_d_", "(", "(_)", ",", "_,_", ":-", "_:-_", ".", "X", "X_", "12", "'", "\xc3\xa9", "\xc3", "\xff_", "\x00", "\n", "%", "left", "xfx",
		strings.Repeat("a", 38), strings.Repeat("a", 39), strings.Repeat("a", 40), "_" + strings.Repeat("+", 38) + "_", "_" + strings.Repeat("+", 39) + "_", strings.Repeat("a_", 1<<12),
	}
	codes := map[api.Errno]int{}
	for _, word := range words {
		for _, name := range names {
			for _, group := range []string{"0", "1", "5", "9", "10", "00", "2147483648", ""} {
				for _, kind := range []int{1, 2, 5} {
					_, e := check(t, operWith(group, word, tok(kind, name)))
					codes[e]++
				}
			}
		}
	}
	for _, e := range []api.Errno{api.OK, api.ErrGroup, api.ErrType, api.ErrPattern, api.ErrAssoc} {
		if codes[e] < 20 {
			t.Errorf("error %d is told %d times", e, codes[e])
		}
	}
	if codes[api.ErrDirective] > 0 {
		t.Errorf("%d directives are of no row", codes[api.ErrDirective])
	}
}

// P15.2, P15.3: each byte in each free text.
func TestEachByte(t *testing.T) {
	for i := range 256 {
		x := string([]byte{byte(i)})
		for _, form := range []string{"X", "aX", "Xa", "X_", "_X_", "aX_", "_X_a"} {
			text := strings.ReplaceAll(form, "X", x)
			for _, word := range []string{"left", "non", "xfx", "fy", "yf"} {
				check(t, operWith("3", word, tok(5, text)))
				check(t, operWith("0", word, tok(2, text)))
			}
			check(t, operWith("3", text, tok(2, "+")))
		}
		for _, word := range []string{"X", "1X", "X1", "xfX", "lefX", "lefXt"} {
			text := strings.ReplaceAll(word, "X", x)
			check(t, operWith("3", text, tok(2, "+")))
			check(t, operWith(text, "xfx", tok(2, "+")))
		}
	}
}

// P15.2, R1: all lists of at most five tokens of those that the short rows have, and of ones near to them: just the two rows are directives that may be.
func TestLists(t *testing.T) {
	pool := []api.Token{tok(2, ":-"), tok(1, "begin"), tok(1, "end"), tok(7, "."), tok(2, "."), tok(1, "op"), tok(6, "("), tok(6, ")"), tok(8, "")}
	may := 0
	var more func(l []api.Token)
	more = func(l []api.Token) {
		if _, e := decl.Of(piece(l...)); e == api.OK {
			may++
		} else if e != api.ErrDirective {
			t.Errorf("Of(%+v): %d", l, e)
		}
		if len(l) < 5 {
			for _, x := range pool {
				more(append(slices.Clone(l), x))
			}
		}
	}
	more(nil)
	if may != 2 {
		t.Errorf("%d directives may be", may)
	}
}

// all of P15.1 to P15.3: texts of many clauses, made of words, of layout and of bytes at random: each clause of them.
func TestTexts(t *testing.T) {
	words := []string{
		":- op(3, yfx, +).", ":- edge(7, 3).", ":- begin.", ":- end.", ":- op(", "3, ", "0, ", "10, ", "left, ", "right, ", "non, ", "xfx, ", "fy, ", "zzz, ", "'_+_')", "'if_then_')", "+)", "a_)", "X)", ".", ". ", ".\n", " ",
		":-", " :- ", "op", "edge", "begin", "end", "(", ")", ",", "7", "'", "%", "/* */", "\xff", "\x00", "a",
	}
	codes := map[api.Errno]int{}
	for seed := range uint64(30000) {
		c := rand.New(rand.NewPCG(seed, 15))
		var b []byte
		if c.IntN(2) == 0 { // most of a directive is right
			b = append(b, ":- op("+words[5+c.IntN(3)]+words[8+c.IntN(6)]+words[14+c.IntN(5)]+". "...)
		}
		for range c.IntN(7) {
			b = append(b, words[c.IntN(len(words))]...)
		}
		if len(b) > 0 && c.IntN(3) == 0 {
			b[c.IntN(len(b))] = byte(c.IntN(256))
		}
		for _, p := range split.Pieces(b) {
			_, e := check(t, p)
			codes[e]++
		}
	}
	for _, e := range []api.Errno{api.OK, api.ErrDirective, api.ErrGroup, api.ErrType, api.ErrPattern, api.ErrAssoc} {
		if codes[e] < 100 {
			t.Errorf("error %d is told %d times", e, codes[e])
		}
	}
}

// R1: pieces without tokens, and of tokens without number or end.
func TestLarge(t *testing.T) {
	told(t, api.Piece{}, api.Decl{}, api.ErrDirective)
	told(t, api.Piece{Tokens: []api.Token{}}, api.Decl{}, api.ErrDirective)
	told(t, piece(make([]api.Token, 10)...), api.Decl{}, api.ErrDirective)
	many := piece(slices.Repeat(operOf, 1<<14)...)
	if d, e := decl.Of(many); d != (api.Decl{}) || e != api.ErrDirective || !decl.Is(many) {
		t.Errorf("%+v, %d", d, e)
	}
	long := strings.Repeat("a", 1<<20)
	told(t, operWith("3", "xfx", tok(1, long)), api.Decl{}, api.ErrPattern)
	told(t, operWith("0", "left", tok(5, long+"_")), api.Decl{}, api.ErrPattern)
	told(t, operWith("3", long, tok(2, "+")), api.Decl{}, api.ErrType)
	told(t, operWith(long, "yfx", tok(2, "+")), dropDecl("_+_"), api.OK)
}

// R6, R7: what was told does not see what becomes of the tokens, nor does one call see another.
func TestOwn(t *testing.T) {
	p := operWith("4", "right", tok(5, "if_then_"))
	d, e := decl.Of(p)
	clear(p.Tokens)
	if d != operDecl("if_then_", 4, 2) || e != api.OK {
		t.Errorf("%+v, %d", d, e)
	}
	for range 3 {
		told(t, piece(beginOf...), api.Decl{Kind: 4}, 0)
		told(t, piece(operOf...), operDecl("_+_", 3, 1), 0)
		told(t, p, api.Decl{}, api.ErrDirective)
		told(t, piece(edgeOf...), api.Decl{Kind: 3, G: 7, H: 3}, 0)
		told(t, piece(endOf...), api.Decl{Kind: 5}, 0)
	}
	whole := slices.Concat(operOf, edgeOf)
	told(t, piece(whole[:len(operOf)]...), operDecl("_+_", 3, 1), 0)
	if spelt(whole) != spelt(operOf)+spelt(edgeOf) {
		t.Errorf("%+v", whole)
	}
}
