package print_test

import (
	"fmt"
	"math"
	"math/rand/v2"
	"slices"
	"strings"
	"testing"
	"unicode/utf8"

	"tmesis/api"
	"tmesis/derive"
	"tmesis/env"
	"tmesis/fits"
	"tmesis/lex"
	"tmesis/parse"
	"tmesis/print"
	"tmesis/shape"
	"tmesis/split"
	"tmesis/tree"
)

// The bytes of some classes, as the document tells them.
const (
	lowers  = "abcdefghijklmnopqrstuvwxyz"
	uppers  = "ABCDEFGHIJKLMNOPQRSTUVWXYZ_"
	numbers = "0123456789"
	symbols = `+-*/\^<>=~:.?@#&$!`
	solos   = "(),|;[]{}"
)

// patterns is some that have a shape: with holes at both ends, at the right one, at the left one, and at none; some of them share their parts.
var patterns = []string{"_+_", "_*_", "_?_:_", "-_", "if_then_", "if_then_else_", "_!", "_[_]", "[_]", "|_|", "_a_b_c_d_", "_-_", "_a_a", "_+", "+_", "_+_+_"}

// alike is some that have few parts, so that one row of tokens may come from several of them.
var alike = []string{"_+_", "_+", "+_", "_+_+_", "+_+", "_-_", "-_", "_-", "_+_-_", "if_then_", "if_then_else_", "_[_]", "[_]", "[_+_]"}

// lone is some of parts that no two of them share.
var lone = []string{"_+_", "_*_", "_<>_", "_is_", "-_", "not_", "~_", "_!", "_?", "_&_", "if_then_", "[_]", "_<_>", "{_}_", "_;_", "_a_b_c_d_"}

// says is what leaves say: names of all kinds, some of which are parts of the operators above, and texts that no name is.
var says = []string{"p", "X", "7", "&&", "+", "-", "then", "[", "a", "", "a b", "(", "'", ".", "_+_", "%", "/*", "\n", `\`, "007", "2147483648", "é", ":-", "if", "_", "a_b", "*/"}

// op is an operator.
func op(pattern string, group, assoc int) api.Oper {
	return api.Oper{Pattern: pattern, Group: group, Assoc: assoc}
}

// of is an env of the ladder with these operators, each of which has to be one that may be.
func of(t *testing.T, l ...api.Oper) api.Env {
	t.Helper()
	e := env.New()
	for _, o := range l {
		var code api.Errno
		if e, code = env.Add(e, o); code != api.OK {
			t.Fatalf("%+v: %d", o, code)
		}
	}
	return e
}

// sums is an env of the operators that the tables are about.
func sums(t *testing.T) api.Env {
	return of(t, op("[_]", 9, 0), op("_!", 1, 1), op("_*_", 2, 1), op("_+_", 3, 1), op("_^_", 1, 2), op("if_then_", 5, 2), op("-_", 2, 2), op("~_", 2, 0), op("_=_", 4, 0), op("_?_:_", 5, 2), op("_[_]", 1, 1), op("_is_", 7, 0))
}

// node is a node.
func node(kind int, name string, from, to, kids int) api.Node {
	return api.Node{Kind: kind, Name: name, From: from, To: to, Kids: kids}
}

// row is the nodes of a tree: a name is a leaf's, but one that has a number behind it is an operator's, with so many kids.
func row(l ...any) []api.Node {
	var t []api.Node
	for _, x := range l {
		switch x := x.(type) {
		case string:
			t = append(t, node(1, x, 0, 0, 0))
		case int:
			t[len(t)-1].Kind, t[len(t)-1].Kids = 3, x
		}
	}
	return t
}

// said is a token that tells only its kind and its text.
func said(kind int, text string) api.Token {
	return api.Token{Kind: kind, Text: text}
}

// words is what tokens say.
func words(l []api.Token) string {
	var s []string
	for _, t := range l {
		s = append(s, fmt.Sprint(t.Kind, ":", t.Text))
	}
	return strings.Join(s, " ")
}

// named tells whether text is a name that begins with one of these bytes, or, if so, with a sequence of more than one.
func named(text, first string, high bool) bool {
	if text == "" || !utf8.ValidString(text) {
		return false
	}
	if strings.ContainsFunc(text, func(r rune) bool { return r < 0x80 && !strings.ContainsRune(lowers+uppers+numbers, r) }) {
		return false
	}
	return strings.Contains(first, text[:1]) || high && text[0] >= 0x80
}

// only tells whether text has bytes, and only these.
func only(text, of string) bool {
	return text != "" && strings.Trim(text, of) == ""
}

// part tells whether an operator of e has a part of that name.
func part(e api.Env, name string) bool {
	return slices.ContainsFunc(e.Opers, func(o api.Oper) bool { return slices.Contains(strings.Split(o.Pattern, "_"), name) })
}

// kind is of which kind the token of a leaf is that says text; 0, if there is none.
func kind(e api.Env, text string) int {
	n := strings.TrimLeft(text, "0")
	switch {
	case named(text, lowers, true) && !part(e, text):
		return 1
	case only(text, symbols) && text != "." && !strings.HasPrefix(text, "/*") && !part(e, text):
		return 2
	case named(text, uppers, false):
		return 3
	case only(text, numbers) && (len(n) < 10 || len(n) == 10 && n <= "2147483647"):
		return 4
	case utf8.ValidString(text) && !strings.ContainsFunc(text, func(r rune) bool { return r < 32 && r != '\n' || r == 127 }):
		return 5
	}
	return 0
}

// kindOf is of which kind the token of a part is.
func kindOf(part string) int {
	switch {
	case only(part, symbols):
		return 2
	case only(part, solos):
		return 6
	}
	return 1
}

// done is what comes of a tree's first nodes: their tokens, the nodes that derive these, with brackets and places, and the nodes that are left.
type done struct {
	tokens []api.Token
	nodes  []api.Node
	left   []api.Node
}

// made is what has to come of the first subtree of t, printed from a place on; false, if it may not be printed.
func made(e api.Env, t []api.Node, at int) (done, bool) {
	if len(t) == 0 {
		return done{}, false
	}
	n := t[0]
	if n.Kind == 1 && n.Kids == 0 && kind(e, n.Name) != 0 {
		return done{[]api.Token{said(kind(e, n.Name), n.Name)}, []api.Node{node(1, n.Name, at, at+1, 0)}, t[1:]}, true
	}
	i := slices.IndexFunc(e.Opers, func(o api.Oper) bool { return o.Pattern == n.Name })
	if n.Kind != 3 || i < 0 || n.Kids != strings.Count(n.Name, "_") {
		return done{}, false
	}
	d := done{left: t[1:]}
	for k, part := range strings.Split(n.Name, "_") {
		if k > 0 {
			ahead, behind := k == 1 && n.Name[0] == '_', k == n.Kids && part == ""
			kid, ok := filled(e, e.Opers[i], d.left, at+len(d.tokens), ahead, behind)
			if !ok {
				return done{}, false
			}
			d = done{slices.Concat(d.tokens, kid.tokens), slices.Concat(d.nodes, kid.nodes), kid.left}
		}
		if part != "" {
			d.tokens = append(d.tokens, said(kindOf(part), part))
		}
	}
	d.nodes = slices.Insert(d.nodes, 0, node(3, n.Name, at, at+len(d.tokens), n.Kids))
	return d, true
}

// filled is made of what stands in a hole of o, which is ahead of all parts, behind all of them, or neither.
func filled(e api.Env, o api.Oper, t []api.Node, at int, ahead, behind bool) (done, bool) {
	fit := true
	if len(t) > 0 && t[0].Kind == 3 {
		for _, k := range e.Opers {
			if k.Pattern == t[0].Name {
				fit = (!ahead || fits.Fits(e.Rows, o, k, false)) && (!behind || fits.Fits(e.Rows, o, k, true))
			}
		}
	}
	if fit {
		return made(e, t, at)
	}
	d, ok := made(e, t, at+1)
	if !ok {
		return done{}, false
	}
	d.tokens = slices.Concat([]api.Token{said(6, "(")}, d.tokens, []api.Token{said(6, ")")})
	d.nodes = slices.Insert(d.nodes, 0, node(2, "", at, at+len(d.tokens), 1))
	return d, true
}

// holds holds Tokens of t against what it has to tell, that it is derived as t is, and sees that nothing that is handed in is changed; it tells how many tokens there are, 0 if it may not be printed.
func holds(t *testing.T, e api.Env, n []api.Node) int {
	t.Helper()
	opers, nodes := slices.Clone(e.Opers), slices.Clone(n)
	l, code := print.Tokens(e, n)
	d, ok := made(e, n, 0)
	if !ok || len(d.left) > 0 {
		if len(l) != 0 || code != api.ErrArg {
			t.Errorf("Tokens(%+v, %.900s) = %.900s, %d, though it may not be printed", e, fmt.Sprint(n), words(l), code)
		}
	} else if code != api.OK || !slices.Equal(l, d.tokens) {
		t.Errorf("Tokens(%+v, %.900s) = %.900s, %d, not %.900s", e, fmt.Sprint(n), words(l), code, words(d.tokens))
	} else if !tree.Right(e, l, d.nodes) || !slices.Equal(tree.Bare(d.nodes), tree.Bare(n)) {
		t.Errorf("Tokens(%+v, %.900s) = %.900s, which is not derived by %+v", e, fmt.Sprint(n), words(l), d.nodes)
	}
	if !slices.Equal(e.Opers, opers) || !slices.Equal(n, nodes) {
		t.Errorf("%+v, %.900s has become %+v, %.900s", opers, fmt.Sprint(nodes), e, fmt.Sprint(n))
	}
	return len(l)
}

// bracket tells whether t is this one.
func bracket(t api.Token, text string) bool {
	return t.Kind == 6 && t.Text == text
}

// ends is at which places what derives the first subtree of t may end that begins at from; the nodes behind that subtree; and, of bare, whether it is not in brackets.
func ends(e api.Env, l []api.Token, t []api.Node, from int) (in, bare []int, left []api.Node) {
	n := t[0]
	left = t[tree.End(t, 0):]
	if from >= len(l) {
		return nil, nil, left
	}
	if n.Kind == 1 {
		if fits.Leaf(e, l[from]) && l[from].Text == n.Name {
			bare = []int{from + 1}
		}
	} else {
		bare = along(e, l, t, from)
	}
	if bracket(l[from], "(") {
		more, brackets, _ := ends(e, l, t, from+1)
		for _, end := range append(more, brackets...) {
			if end < len(l) && bracket(l[end], ")") {
				in = append(in, end+1)
			}
		}
	}
	return in, bare, left
}

// along is at which places what derives the operator at the beginning of t may end that begins at from.
func along(e api.Env, l []api.Token, t []api.Node, from int) []int {
	at, kids := []int{from}, t[1:]
	oper := func(name string) api.Oper {
		return e.Opers[slices.IndexFunc(e.Opers, func(o api.Oper) bool { return o.Pattern == name })]
	}
	for k, part := range strings.Split(t[0].Name, "_") {
		var behind []int
		kid := kids
		for _, place := range at {
			if k == 0 {
				behind = append(behind, place)
				continue
			}
			in, bare, left := ends(e, l, kid, place)
			behind, kids = append(behind, in...), left
			first, last := k == 1 && t[0].Name[0] == '_', part == ""
			if kid[0].Kind != 3 || (!first || fits.Fits(e.Rows, oper(t[0].Name), oper(kid[0].Name), false)) && (!last || fits.Fits(e.Rows, oper(t[0].Name), oper(kid[0].Name), true)) {
				behind = append(behind, bare...)
			}
		}
		at = nil
		for _, place := range behind {
			if part == "" {
				at = append(at, place)
			} else if place < len(l) && fits.Part(l[place], part) {
				at = append(at, place+1)
			}
		}
	}
	return at
}

// derived tells whether l is derived as t is, but for brackets and places.
func derived(e api.Env, l []api.Token, t []api.Node) bool {
	in, bare, _ := ends(e, l, t, 0)
	return slices.Contains(append(in, bare...), len(l))
}

// least holds that what a tree is printed as is derived as it is, but without any of its pairs of brackets is not; it tells how many pairs there are.
func least(t *testing.T, e api.Env, n []api.Node) int {
	t.Helper()
	l, _ := print.Tokens(e, n)
	if !derived(e, l, n) {
		t.Errorf("%s is not derived by %+v as %+v", words(l), e, n)
	}
	var open []int
	pairs := 0
	for at, k := range l {
		if bracket(k, "(") {
			open = append(open, at)
		}
		if !bracket(k, ")") {
			continue
		}
		pairs++
		from := open[len(open)-1]
		open = open[:len(open)-1]
		if fewer := slices.Concat(l[:from], l[from+1:at], l[at+1:]); derived(e, fewer, n) {
			t.Errorf("%s is derived by %+v as %+v, and so is %s", words(l), e, n, words(fewer))
		}
	}
	return pairs
}

// P22.1, P22.2: trees, and what they are printed as.
func TestTable(t *testing.T) {
	e := sums(t)
	for _, c := range []struct {
		want string
		tree []api.Node
	}{
		{"(a+b)*c", row("_*_", 2, "_+_", 2, "a", "b", "c")}, // the chapter's
		{"a", row("a")},
		{"X", row("X")},
		{"'+'", row("+")},
		{"[a]", row("[_]", 1, "a")},
		{"a!", row("_!", 1, "a")},
		{"-a", row("-_", 1, "a")},
		{"'+'+'*'*'['", row("_+_", 2, "+", "_*_", 2, "*", "[")},
		{"a+b*c", row("_+_", 2, "a", "_*_", 2, "b", "c")},
		{"a*b+c", row("_+_", 2, "_*_", 2, "a", "b", "c")},
		{"a*(b+c)", row("_*_", 2, "a", "_+_", 2, "b", "c")},
		{"a+b+c", row("_+_", 2, "_+_", 2, "a", "b", "c")}, // leans left
		{"a+(b+c)", row("_+_", 2, "a", "_+_", 2, "b", "c")},
		{"a^b^c", row("_^_", 2, "a", "_^_", 2, "b", "c")}, // leans right
		{"(a^b)^c", row("_^_", 2, "_^_", 2, "a", "b", "c")},
		{"(a=b)=c", row("_=_", 2, "_=_", 2, "a", "b", "c")}, // leans neither way
		{"a=(b=c)", row("_=_", 2, "a", "_=_", 2, "b", "c")},
		{"- -a", row("-_", 1, "-_", 1, "a")},
		{"~(~a)", row("~_", 1, "~_", 1, "a")},
		{"~(-a)", row("~_", 1, "-_", 1, "a")}, // of one group, but one of them does not lean
		{"-(~a)", row("-_", 1, "~_", 1, "a")},
		{"-(a*b)", row("-_", 1, "_*_", 2, "a", "b")}, // of one group, but they lean apart
		{"(-a)*b", row("_*_", 2, "-_", 1, "a", "b")},
		{"a*(-b)", row("_*_", 2, "a", "-_", 1, "b")}, // nothing but a tighter one fits, though it has no hole at the left
		{"a+ -b", row("_+_", 2, "a", "-_", 1, "b")},
		{"a! !", row("_!", 1, "_!", 1, "a")},
		{"(-a)!", row("_!", 1, "-_", 1, "a")},
		{"-a!", row("-_", 1, "_!", 1, "a")},
		{"(a^b)!", row("_!", 1, "_^_", 2, "a", "b")}, // they lean apart
		{"[a is b]!", row("_!", 1, "[_]", 1, "_is_", 2, "a", "b")},
		{"[a]*[b]", row("_*_", 2, "[_]", 1, "a", "[_]", 1, "b")}, // of group 9, but without a hole at an end
		{"a[b is c]", row("_[_]", 2, "a", "_is_", 2, "b", "c")},
		{"(a is b)[c]", row("_[_]", 2, "_is_", 2, "a", "b", "c")},
		{"a[b]!", row("_!", 1, "_[_]", 2, "a", "b")},
		{"a[b][c][d]", row("_[_]", 2, "_[_]", 2, "_[_]", 2, "a", "b", "c", "d")},
		{"a?b is c:d", row("_?_:_", 3, "a", "_is_", 2, "b", "c", "d")},
		{"(a is b)?c:d", row("_?_:_", 3, "_is_", 2, "a", "b", "c", "d")},
		{"a?b:(c is d)", row("_?_:_", 3, "a", "b", "_is_", 2, "c", "d")},
		{"(a?b:c)?d?e:f:g?h:i", row("_?_:_", 3, "_?_:_", 3, "a", "b", "c", "_?_:_", 3, "d", "e", "f", "_?_:_", 3, "g", "h", "i")},
		{"if if a then b then if c then d", row("if_then_", 2, "if_then_", 2, "a", "b", "if_then_", 2, "c", "d")},
		{"if a then b?c:d", row("if_then_", 2, "a", "_?_:_", 3, "b", "c", "d")}, // of one group, and both lean right
		{"(if a then b)+c", row("_+_", 2, "if_then_", 2, "a", "b", "c")},
		{"a+(if b then c)", row("_+_", 2, "a", "if_then_", 2, "b", "c")},
		{"(if a then b)is(a=b)", row("_is_", 2, "if_then_", 2, "a", "b", "_=_", 2, "a", "b")}, // of groups of which neither is tighter
		{"((a is b)+c)*d", row("_*_", 2, "_+_", 2, "_is_", 2, "a", "b", "c", "d")},
		{"- - - -a", row("-_", 1, "-_", 1, "-_", 1, "-_", 1, "a")},
		{"~(~(~(~a)))", row("~_", 1, "~_", 1, "~_", 1, "~_", 1, "a")},
		{"'_+_'*'-_'", row("_*_", 2, "_+_", "-_")}, // leaves, which fit whatever they say
		{"'(a)'*')'", row("_*_", 2, "(a)", ")")},
		{`-'it''s\n'!`, row("-_", 1, "_!", 1, "it's\n")},
	} {
		var want []api.Token
		for _, k := range lex.All([]byte(c.want)) {
			want = append(want, said(k.Kind, k.Text))
		}
		if l, code := print.Tokens(e, c.tree); code != api.OK || !slices.Equal(l, want) {
			t.Errorf("%s: %s, %d", c.want, words(l), code)
		}
		holds(t, e, c.tree)
		least(t, e, c.tree)
	}
}

// P22.1, P22.2: what leaves are printed as, by what they say: each byte and pair of bytes, and longer texts, by operators of which they are parts, or not.
func TestLeaves(t *testing.T) {
	var texts []string
	for a := range 256 {
		texts = append(texts, string([]byte{byte(a)}))
		for b := range 256 {
			texts = append(texts, string([]byte{byte(a), byte(b)}))
		}
	}
	texts = append(texts, says...)
	texts = append(texts, patterns...)
	texts = append(texts, "then", "else", "thenx", "Then", "aé", "Éa", "éA", "\u20ac", "\U0001f600b", "a\xff", "\xc3", "\xed\xa0\x80", "\xf4\x90\x80\x80", "\xc0\x80", "_", "_a", "A1_z", "a1B_", "1a", "a.b", "a.", " a", "a ", "\ta", "a\n", "a%", "%a\n", "a/**/", "/**/a", "/* */", "/*", "+/*", "*/", "/*/", "./", "..", "...", ". ", ".%", "+.", ":-", "::", "'a'", "''", "'a", "a'", "'+'", "it's", `a\n`, `\'`, "a\x00b", "a\x1fb", "a\x7fb", "a\rb", "a\nb", "\n\n", "2147483647", "2147483648", "002147483647", "0000", "99999999999999999999", "00000000000000000000000000001", "1 ", "-1", "+1", "1.", "1.5", "()", "[]", "[ ]", "if then", "if", "ifs", "if_", "_if", "(a)", "NIL", "true", strings.Repeat("x", 3000), strings.Repeat("x ", 3000), strings.Repeat("+", 3000), strings.Repeat("'", 3000), strings.Repeat("0", 3000)+"9", strings.Repeat("9", 3000))
	for _, e := range []api.Env{env.New(), sums(t), of(t, op("a_", 3, 0), op("_+_", 3, 0), op("_+-", 2, 0), op("é_", 3, 0), op("[_;_]", 2, 0))} {
		kinds := map[int]int{}
		for _, text := range texts {
			k := kind(e, text)
			kinds[k]++
			l, code := print.Tokens(e, row(text))
			if k == 0 && (len(l) != 0 || code != api.ErrArg) || k != 0 && (code != api.OK || !slices.Equal(l, []api.Token{said(k, text)})) {
				t.Errorf("%.50q: %.900s, %d, not of kind %d", text, words(l), code, k)
			}
			holds(t, e, row("_+_", 2, text, "X"))
			holds(t, e, row("_+_", 2, "X", text))
		}
		for k := range 6 {
			if kinds[k] < 10 {
				t.Errorf("of kind %d only %d", k, kinds[k])
			}
		}
	}
}

// P22.1, P22.2: whatever a leaf says, it is no operator: it stands at an end without brackets.
func TestLeavesFit(t *testing.T) {
	e := of(t, op("_*_", 1, 0), op("_+_", 3, 1), op("-_", 3, 2), op("_!", 3, 1), op("[_]", 3, 0))
	for _, text := range slices.Concat(says, patterns) {
		for _, o := range e.Opers {
			n := []api.Node{node(3, o.Pattern, 0, 0, strings.Count(o.Pattern, "_"))}
			for range n[0].Kids {
				n = append(n, node(1, text, 0, 0, 0))
			}
			l, code := print.Tokens(e, n)
			if code != api.OK || slices.ContainsFunc(l, func(k api.Token) bool { return bracket(k, "(") || bracket(k, ")") }) {
				t.Errorf("%+v: %s, %d", n, words(l), code)
			}
		}
	}
}

// P22.1: what may not be printed, each for a reason of its own; and what may, next to it.
func TestRefused(t *testing.T) {
	e := of(t, append(sums(t).Opers, op("é_", 5, 2))...)
	leaf := func(kind, kids int) api.Node { return node(kind, "a", 0, 0, kids) }
	for i, c := range []struct {
		may  bool
		tree []api.Node
	}{
		{false, nil},
		{false, []api.Node{}},
		{false, []api.Node{{}}},
		{true, row("a")},
		{false, row("a", "b")}, // two trees
		{false, row("_+_", 2, "a", "b", "c")},
		{false, row("a", "_+_", 2, "a", "b")},
		{false, row("_+_", 2, "a")}, // a kid that is not there
		{false, row("_+_", 2)},
		{false, row("_+_", 2, "a", "_+_", 2, "b")},
		{true, row("_+_", 2, "a", "_+_", 2, "b", "c")},
		{false, []api.Node{leaf(1, 1)}},
		{false, []api.Node{leaf(1, 1), leaf(1, 0)}}, // a leaf has none
		{false, []api.Node{leaf(1, -1)}},            // nor less than none
		{false, []api.Node{leaf(1, math.MinInt)}},
		{false, []api.Node{leaf(1, math.MaxInt)}},
		{false, []api.Node{leaf(2, 0)}},
		{false, []api.Node{leaf(3, 0)}}, // no operator
		{false, []api.Node{leaf(0, 0)}}, // no kind
		{false, []api.Node{leaf(4, 0)}},
		{false, []api.Node{leaf(-1, 0)}},
		{false, []api.Node{leaf(257, 0)}},
		{false, []api.Node{leaf(1<<32+1, 0)}},
		{false, []api.Node{node(2, "", 0, 3, 1), leaf(1, 0)}}, // brackets are not told of, but made
		{false, append(append(row("_*_", 2), node(2, "", 0, 0, 1)), row("_+_", 2, "a", "b", "c")...)},
		{false, []api.Node{node(2, "[_]", 0, 3, 1), leaf(1, 0)}},
		{false, []api.Node{node(1, "[_]", 0, 3, 1), leaf(1, 0)}},
		{true, []api.Node{node(3, "[_]", 0, 3, 1), leaf(1, 0)}},
		{false, []api.Node{node(3, "[_]", 0, 3, 0)}},
		{false, []api.Node{node(3, "[_]", 0, 3, -1)}},
		{false, []api.Node{node(3, "_!", 0, 3, math.MinInt)}},
		{false, []api.Node{node(3, "_!", 0, 3, 1-1<<32)}},
		{false, []api.Node{node(3, "_+_", 0, 3, math.MinInt+2)}},
		{false, append(row("-_", 1), node(3, "_+_", 0, 3, 2-1<<32))},
		{false, row("_+_", 1, "a")}, // fewer kids than holes
		{false, row("_+_", 0)},
		{false, row("_+_", 3, "a", "b", "c")}, // more
		{false, row("_!", 2, "a", "b")},
		{false, row("-_", 2, "a", "b")},
		{false, row("[_]", 2, "a", "b")},
		{false, row("_[_]", 3, "a", "b", "c")},
		{false, row("_?_:_", 2, "a", "b")},
		{false, row("_?_:_", 4, "a", "b", "c", "d")},
		{false, row("if_then_", 3, "a", "b", "c")},
		{false, row("_/_", 2, "a", "b")}, // an operator that there is not
		{false, row("+_", 1, "a")},
		{false, row("_+", 1, "a")},
		{false, row("+", 0)},
		{false, row("+", 2, "a", "b")}, // no pattern
		{false, row("", 2, "a", "b")},
		{false, row("_", 1, "a")},
		{false, row("_+_ ", 2, "a", "b")},
		{false, row(" _+_", 2, "a", "b")},
		{false, row("_+__", 3, "a", "b", "c")},
		{false, row("__+_", 3, "a", "b", "c")},
		{true, row("é_", 1, "a")},
		{false, row("É_", 1, "a")}, // it has a shape, but is another one
		{false, row("e\u0301_", 1, "a")},
		{true, row("_+_", 2, "_!", 1, "a", "-_", 1, "b")},
		{false, row("_+_", 2, "_?", 1, "a", "-_", 1, "b")}, // somewhere below
		{false, row("_+_", 2, "_!", 1, "a", "+_", 1, "b")},
		{false, row("_+_", 2, "_!", 1, "a", "-_", 1, "\x00")},
		{false, row("_+_", 2, "_!", 1, "\xff", "-_", 1, "b")},
		{false, row("_?_:_", 3, "a", "\x7f", "b")},
		{false, row("[_]", 1, "a\tb")},
		{false, row("\x1b")},
		{false, row("'\r'")},
		{true, row("'\n'")},
		{true, row("")},
	} {
		if l, code := print.Tokens(e, c.tree); c.may != (code == api.OK) || c.may != (len(l) > 0) || !c.may && code != api.ErrArg {
			t.Errorf("%d: %+v: %s, %d", i, c.tree, words(l), code)
		}
		holds(t, e, c.tree)
	}
}

// P22.1, P22.2: where a node says that it stands does not matter, and neither does its name, if it is a leaf's that says the same.
func TestPlaces(t *testing.T) {
	e := sums(t)
	n := row("_*_", 2, "_+_", 2, "a", "'", "[_]", 1, "X")
	want, code := print.Tokens(e, n)
	if len(want) != 9 || code != api.OK {
		t.Fatalf("%s, %d", words(want), code)
	}
	for _, a := range []int{math.MinInt, -1, 0, 1, 2, 9, 1 << 32, math.MaxInt} {
		for _, b := range []int{math.MinInt, -1, 0, 1, 2, 9, 1 << 32, math.MaxInt} {
			for i := range n {
				m := slices.Clone(n)
				m[i].From, m[i].To = a, b
				m[(i+1)%len(m)].From, m[(i+1)%len(m)].To = b, a
				if l, code := print.Tokens(e, m); code != api.OK || !slices.Equal(l, want) {
					t.Errorf("%+v: %s, %d", m, words(l), code)
				}
			}
		}
	}
}

// P22.2: each group and associativity of one operator in another one, at its left end, at its right one, and between.
func TestFits(t *testing.T) {
	some := map[bool]int{}
	for _, outer := range []string{"_*_", "_*", "*_", "[_*_]", "_?_:_"} {
		for _, inner := range []string{"_+_", "_+", "+_", "[_+_]", "+_+"} {
			for i := range 9 * 9 * 3 * 3 {
				o, k := op(outer, 1+i%9, i/81%3), op(inner, 1+i/9%9, i/243)
				e, first := env.Add(env.New(), o)
				e, second := env.Add(e, k)
				e, third := env.Edge(e, 7, 3)
				if first != 0 || second != 0 || third != 0 {
					continue
				}
				below := []api.Node{node(3, inner, 0, 0, strings.Count(inner, "_"))}
				for range below[0].Kids {
					below = append(below, node(1, "a", 0, 0, 0))
				}
				kids := strings.Count(outer, "_")
				for at := range kids {
					n := []api.Node{node(3, outer, 0, 0, kids)}
					for range at {
						n = append(n, node(1, "b", 0, 0, 0))
					}
					n = append(n, below...)
					for range kids - at - 1 {
						n = append(n, node(1, "c", 0, 0, 0))
					}
					holds(t, e, n)
					some[least(t, e, n) > 0]++
				}
			}
		}
	}
	if some[true] < 1000 || some[false] < 1000 {
		t.Errorf("with brackets %d, without %d", some[true], some[false])
	}
}

// P22.1, P22.2: all rows of few nodes, by operators of which each hole takes something else.
func TestAll(t *testing.T) {
	for _, c := range []struct {
		few   int
		opers []api.Oper
	}{
		{6, []api.Oper{op("_+_", 3, 1), op("-_", 2, 2)}},
		{6, []api.Oper{op("_+_", 3, 0), op("_-", 3, 1), op("-_", 4, 0)}},
		{6, []api.Oper{op("if_then_", 3, 2), op("_+_", 3, 2)}},
		{6, []api.Oper{op("_-_", 6, 1), op("[_]", 9, 0), op("-_", 7, 0)}},
		{6, []api.Oper{op("_?_:_", 3, 1), op("_!", 3, 1)}},
	} {
		e := of(t, c.opers...)
		nodes := []api.Node{node(1, "a", 0, 0, 0), node(1, "-", 0, 0, 0), node(2, "", 0, 0, 1)}
		for _, o := range c.opers {
			nodes = append(nodes, node(3, o.Pattern, 0, 0, strings.Count(o.Pattern, "_")))
		}
		printed := 0
		var all func(n []api.Node)
		all = func(n []api.Node) {
			if holds(t, e, n) > 0 {
				printed++
				least(t, e, n)
				one(t, e, n)
			}
			for i := 0; i < len(nodes) && len(n) < c.few; i++ {
				all(append(slices.Clip(n), nodes[i]))
			}
		}
		all(nil)
		if printed < 50 {
			t.Errorf("%+v: only %d", c.opers, printed)
		}
	}
}

// one holds that what a tree is printed as, if it is short enough to be counted, has that tree alone, as tokens and as a clause of a text; it tells whether it was.
func one(t *testing.T, e api.Env, n []api.Node) bool {
	t.Helper()
	l, _ := print.Tokens(e, n)
	if !env.Unique(e) || len(l) == 0 || len(l) > api.MaxTokens {
		return false
	}
	if many, nodes := derive.Count(e, l); many != 1 || !slices.Equal(tree.Bare(nodes), tree.Bare(n)) {
		t.Errorf("by %+v %+v is %s: %d, %+v", e, n, words(l), many, nodes)
	}
	text, code := lex.Join(append(l, said(7, ".")))
	if code != api.OK {
		t.Fatalf("%s: %d", words(l), code)
	}
	p := split.Pieces(text)
	if len(p) != 1 || split.Nest(p[0]) > api.MaxNest {
		return len(p) == 1
	}
	if v := parse.Of(e, p[0]); v.Kind != api.VdTree || !slices.Equal(tree.Bare(v.Tree), tree.Bare(n)) {
		t.Errorf("by %+v %+v is %s: %+v", e, n, text, v)
	}
	return true
}

// anyOper is an operator of that pattern, and of any group and associativity that it may have; most are of few groups.
func anyOper(c *rand.Rand, pattern string) api.Oper {
	o := op(pattern, 1+c.IntN(3), c.IntN(3))
	if c.IntN(3) == 0 {
		o.Group = 1 + c.IntN(9)
	}
	if o.Assoc == api.AsLeft && !strings.HasPrefix(pattern, "_") || o.Assoc == api.AsRight && !strings.HasSuffix(pattern, "_") {
		o.Assoc = api.AsNon
	}
	return o
}

// anyEnv is some of these patterns, with a few edges.
func anyEnv(t *testing.T, c *rand.Rand, patterns []string) api.Env {
	t.Helper()
	var l []api.Oper
	for range 1 + c.IntN(9) {
		l = append(l, anyOper(c, patterns[c.IntN(len(patterns))]))
	}
	e := of(t, l...)
	for range c.IntN(4) {
		if f, code := env.Edge(e, 1+c.IntN(9), 1+c.IntN(9)); code == api.OK {
			e = f
		}
	}
	return e
}

// grown is a tree of the operators of e, as deep as is said.
func grown(c *rand.Rand, e api.Env, deep int) []api.Node {
	if deep <= 0 || c.IntN(4) == 0 {
		return row(says[c.IntN(len(says))])
	}
	pattern := e.Opers[c.IntN(len(e.Opers))].Pattern
	n := row(pattern, strings.Count(pattern, "_"))
	for range n[0].Kids {
		n = append(n, grown(c, e, deep-1)...)
	}
	return n
}

// P22.1, P22.2, P22.3: trees of all kinds of operators, some of which share their parts.
func TestRandom(t *testing.T) {
	pairs, ones, long := 0, 0, 0
	for seed := range uint64(9000) {
		c := rand.New(rand.NewPCG(seed, 221))
		e := anyEnv(t, c, [][]string{patterns, alike, lone}[seed%3])
		n := grown(c, e, 1+c.IntN(4))
		if holds(t, e, n) > api.MaxTokens {
			long++
		}
		if len(n) < 60 {
			pairs += least(t, e, n)
		}
		if one(t, e, n) {
			ones++
		}
	}
	if pairs < 5000 || ones < 2000 || long < 500 {
		t.Errorf("only %d pairs of brackets, %d that are one, %d that are long", pairs, ones, long)
	}
}

// P22.3: operators of which all parts are unlike, as many as there may be.
func TestUnique(t *testing.T) {
	full := 0
	for seed := range uint64(2500) {
		c := rand.New(rand.NewPCG(seed, 222))
		var l []api.Oper
		for _, pattern := range lone {
			if l = append(l, anyOper(c, pattern)); !env.Unique(of(t, l...)) {
				l = l[:len(l)-1]
			}
		}
		for _, pattern := range []string{"b0_b1_", "_c0_c1", "_d0", "e0_"} {
			l = append(l, anyOper(c, pattern))
		}
		c.Shuffle(len(l), func(i, k int) { l[i], l[k] = l[k], l[i] })
		e := of(t, l[:min(len(l), api.MaxOpers)]...)
		n := grown(c, e, 1+c.IntN(4))
		if len(e.Opers) == api.MaxOpers && one(t, e, n) {
			full++
		}
	}
	if full < 1000 {
		t.Errorf("only %d", full)
	}
}

// spoiled is t with one thing changed: a field of a node, a node left out, said twice or put in, two that have changed places.
func spoiled(t []api.Node) [][]api.Node {
	var out [][]api.Node
	for i, n := range t {
		put := func(change func(n *api.Node)) {
			l := slices.Clone(t)
			change(&l[i])
			out = append(out, l)
		}
		for k := range 6 {
			put(func(n *api.Node) { n.Kind = k - 1 })
		}
		for _, name := range slices.Concat([]string{n.Name + "_", n.Name + " ", "_" + n.Name, strings.ToUpper(n.Name), "\x01", "\xff"}, says, patterns) {
			put(func(n *api.Node) { n.Name = name })
		}
		for d := -3; d <= 3; d++ {
			put(func(n *api.Node) { n.Kids += d })
		}
		for _, far := range []int{math.MinInt, math.MinInt + 2, math.MaxInt, math.MaxInt - 1, 1 << 32, 1<<32 + 1, 1<<32 + 2, 256, 257, 258} {
			put(func(n *api.Node) { n.Kids = far })
			put(func(n *api.Node) { n.Kids += far })
			put(func(n *api.Node) { n.Kind += far })
		}
		out = append(out, slices.Delete(slices.Clone(t), i, i+1), slices.Insert(slices.Clone(t), i, n), t[:i], t[i+1:])
		out = append(out, slices.Insert(slices.Clone(t), i, node(2, "", 0, 0, 1)), append(slices.Clone(t), n))
		for k := range i {
			put(func(n *api.Node) { *n = t[k] })
			l := slices.Clone(t)
			l[i], l[k] = l[k], l[i]
			out = append(out, l)
		}
	}
	return out
}

// P22.1: trees with one thing changed.
func TestSpoiled(t *testing.T) {
	may, not := 0, 0
	for seed := range uint64(150) {
		c := rand.New(rand.NewPCG(seed, 223))
		e := anyEnv(t, c, [][]string{patterns, alike, lone}[seed%3])
		n := grown(c, e, 1+c.IntN(3))
		if len(n) > 12 {
			continue
		}
		for _, s := range spoiled(n) {
			if holds(t, e, s) > 0 {
				may++
			} else {
				not++
			}
		}
	}
	if may < 3000 || not < 3000 {
		t.Errorf("%d may be printed, %d not", may, not)
	}
}

// R6, R7: a second call tells the same, whatever was asked between, and what becomes of an env and of a tree that were handed in, or of tokens that were told.
func TestAgain(t *testing.T) {
	e := sums(t)
	for range 3 {
		for _, c := range []struct{ tree, other []api.Node }{
			{row("_*_", 2, "_+_", 2, "a", "b", "c"), row("a")},
			{row("+"), row("_+_", 2, "a", "b")},
			{row("a"), row("\x00")},
			{row("\x00"), row("a")},
			{row("_+_", 2, "a", "\x00"), row("_+_", 2, "a", "b", "c")},
			{row("_?_:_", 3, "_?_:_", 3, "a", "b", "c", "d", "e"), nil},
		} {
			f, n := api.Env{Opers: slices.Clone(e.Opers), Rows: e.Rows}, slices.Clone(c.tree)
			l, code := print.Tokens(f, n)
			again, _ := print.Tokens(f, n)
			d, _ := made(e, c.tree, 0)
			clear(f.Opers)
			clear(n)
			print.Tokens(e, c.other)
			if !slices.Equal(l, d.tokens) || (code == api.OK) != (len(d.tokens) > 0) {
				t.Errorf("%+v: %s, %d", c.tree, words(l), code)
			}
			dot, cut := append(l, said(7, ".")), append(l, said(6, "|"))
			if code == api.OK && (dot[len(l)].Kind != 7 || cut[len(l)].Kind != 6) {
				t.Errorf("%+v: %s, and %s", c.tree, words(dot), words(cut))
			}
			clear(l)
			clear(dot)
			if third, _ := print.Tokens(e, c.tree); !slices.Equal(again, d.tokens) || !slices.Equal(third, d.tokens) {
				t.Errorf("%+v: %s, then %s", c.tree, words(again), words(third))
			}
		}
	}
}

// R1: trees that are deep, or long: with as many brackets as nodes, or with none.
func TestDeep(t *testing.T) {
	const n = 1 << 16
	e := of(t, op("-_", 2, 2), op("~_", 2, 0), op("_!", 2, 1), op("_?", 2, 0), op("[_]", 2, 0), op("_+_", 3, 1), op("_^_", 3, 2))
	for _, c := range []struct {
		pattern string
		each    int
	}{{"-_", 1}, {"~_", 3}, {"_!", 1}, {"_?", 3}, {"[_]", 2}} {
		var l []api.Node
		for range n {
			l = append(l, node(3, c.pattern, 0, 0, 1))
		}
		want := 1 + n*c.each
		if c.each == 3 {
			want -= 2 // the first one stands in no hole, and the last one has a leaf below it
		}
		if k, code := print.Tokens(e, l); len(k) != 0 || code != api.ErrArg {
			t.Errorf("%s without a leaf: %d, %d", c.pattern, len(k), code)
		}
		l = append(l, node(1, "a", 0, 0, 0))
		if k, code := print.Tokens(e, l); len(k) != want || code != api.OK {
			t.Errorf("%s: %d, %d", c.pattern, len(k), code)
		}
	}
	for _, pattern := range []string{"_+_", "_^_"} {
		var left, right []api.Node
		for range n {
			left = append(left, node(3, pattern, 0, 0, 2))
			right = append(right, node(3, pattern, 0, 0, 2), node(1, "a", 0, 0, 0))
		}
		right = append(right, node(1, "a", 0, 0, 0))
		for range n + 1 {
			left = append(left, node(1, "a", 0, 0, 0))
		}
		few, many := 2*n+1, 4*n-1
		if pattern == "_^_" {
			few, many = many, few
		}
		k, code := print.Tokens(e, left)
		m, other := print.Tokens(e, right)
		if len(k) != few || len(m) != many || code != api.OK || other != api.OK {
			t.Errorf("%s: %d, %d; %d, %d", pattern, len(k), code, len(m), other)
		}
	}
}

// R1: nothing panics, of no env, and of operators that may not be, though these are not asked of.
func TestWrong(t *testing.T) {
	if l, code := print.Tokens(api.Env{}, nil); len(l) != 0 || code != api.ErrArg {
		t.Errorf("of nothing: %s, %d", words(l), code)
	}
	if l, code := print.Tokens(api.Env{}, row("+")); !slices.Equal(l, []api.Token{said(2, "+")}) || code != api.OK {
		t.Errorf("without an env: %s, %d", words(l), code)
	}
	for _, pattern := range []string{"", "_", "__", "x", "_,_", "(_)", "_(_", "x__y", "_X_", "_ y_", "_" + strings.Repeat("x", 40), "_a_b_c_d_e_"} {
		if _, code := shape.Of(pattern); code == api.OK {
			t.Fatalf("%q has a shape", pattern)
		}
		for _, number := range []int{math.MinInt, -1, 0, 3, 10, 64, math.MaxInt} {
			e := api.Env{Opers: []api.Oper{op(pattern, number, number), op("_+_", number, number)}, Rows: api.Rows{3: number}}
			for kids := -1; kids < 7; kids++ {
				n := row(pattern, kids)
				for range kids {
					n = append(n, node(1, "a", 0, 0, 0))
				}
				if l, code := print.Tokens(e, n); len(l) != 0 || code != api.ErrArg {
					t.Errorf("%+v by %q: %s, %d", n, pattern, words(l), code)
				}
				if l, code := print.Tokens(e, append(row("_+_", 2, "a"), n...)); len(l) != 0 || code != api.ErrArg {
					t.Errorf("%+v below _+_ by %q: %s, %d", n, pattern, words(l), code)
				}
			}
			if l, code := print.Tokens(e, row("_+_", 2, "_+_", 2, "a", "b", "c")); len(l) < 5 || code != api.OK {
				t.Errorf("of group %d: %s, %d", number, words(l), code)
			}
		}
	}
}
