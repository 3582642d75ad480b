package parse_test

import (
	"fmt"
	"math"
	"math/rand/v2"
	"slices"
	"strings"
	"testing"

	"tmesis/api"
	"tmesis/derive"
	"tmesis/env"
	"tmesis/lex"
	"tmesis/parse"
	"tmesis/split"
	"tmesis/tree"
	"tmesis/viable"
)

// patterns is some that have a shape: with holes at both ends, at the right one, at the left one, and at none; some of them share their parts.
var patterns = []string{"_+_", "_*_", "_?_:_", "-_", "if_then_", "if_then_else_", "_!", "_[_]", "[_]", "|_|", "_a_b_c_d_", "_-_", "_a_a", "_+", "+_", "_+_+_"}

// alike is some that have few parts, so that one row of tokens may come from several of them.
var alike = []string{"_+_", "_+", "+_", "_+_+_", "+_+", "_-_", "-_", "_-", "_+_-_", "if_then_", "if_then_else_", "_[_]", "[_]", "[_+_]"}

// lone is some of one name each, which no two of them share; a few of them may stand between any two others.
var lone = []string{"_+_", "_*_", "_<>_", "_is_", "-_", "not_", "~_", "_!", "_?", "_&_", "if_then_", "[_]", "_<_>", "{_}_"}

// few is some by which clauses often have two trees, and others beside them.
var few = []string{"_+", "+_", "_+_", "_+_+_", "+_+", "_*_", "not_", "~_", "_!"}

// op is an operator.
func op(pattern string, group, assoc int) api.Oper {
	return api.Oper{Pattern: pattern, Group: group, Assoc: assoc}
}

// of is an env of the ladder with these operators, each of which has to be one that may be.
func of(t *testing.T, l ...api.Oper) api.Env {
	t.Helper()
	e := env.New()
	for _, o := range l {
		var code api.Errno
		if e, code = env.Add(e, o); code != api.OK {
			t.Fatalf("%+v: %d", o, code)
		}
	}
	return e
}

// sums is an env of the operators that the tables of texts are about.
func sums(t *testing.T) api.Env {
	return of(t, op("[_]", 9, 0), op("_!", 1, 1), op("_*_", 2, 1), op("_+_", 3, 1), op("_^_", 1, 2), op("if_then_", 5, 2), op("if_then_else_", 5, 2), op("-_", 2, 2), op("_=_", 4, 0), op("_?_:_", 5, 2), op("_is_", 7, 0))
}

// piece is a clause of that text, whichever ends it has.
func piece(text string) api.Piece {
	return api.Piece{To: len(text), Tokens: lex.All([]byte(text))}
}

// node is a node.
func node(kind int, name string, from, to, kids int) api.Node {
	return api.Node{Kind: kind, Name: name, From: from, To: to, Kids: kids}
}

// words is what tokens say.
func words(l []api.Token) string {
	var s []string
	for _, t := range l {
		s = append(s, fmt.Sprint(t.Kind, ":", t.Text))
	}
	return strings.Join(s, " ")
}

// equal tells whether two verdicts are the same in each field.
func equal(v, w api.Verdict) bool {
	return v.Kind == w.Kind && v.Code == w.Code && v.At == w.At && slices.Equal(v.Tree, w.Tree)
}

// nest is how many brackets are open at once, at most: in the stretch in which most more open than shut.
func nest(l []api.Token) int {
	most := 0
	for from := range l {
		open := 0
		for _, t := range l[from:] {
			if t.Kind == 6 && t.Text == "(" {
				open++
			} else if t.Kind == 6 && t.Text == ")" {
				open--
			}
			most = max(most, open)
		}
	}
	return most
}

// wanted is what Of has to tell, line by line of the chapter's table.
func wanted(e api.Env, l []api.Token) api.Verdict {
	for at, t := range l {
		if t.Kind == 8 {
			return api.Verdict{Kind: 7, Code: t.Code, At: at}
		}
	}
	if len(l) == 0 || l[len(l)-1].Kind != 7 {
		return api.Verdict{Kind: 8, Code: 33, At: len(l)}
	}
	if len(l) > 33 || nest(l) > 8 {
		return api.Verdict{Kind: 4, Code: 32}
	}
	ahead := slices.Clone(l[:len(l)-1])
	switch many, nodes := derive.Count(e, ahead); many {
	case 1:
		return api.Verdict{Kind: 1, Tree: nodes}
	case 2:
		return api.Verdict{Kind: 2, Code: 31}
	}
	return api.Verdict{Kind: 3, Code: 30, At: viable.Longest(e, ahead)}
}

// holds holds Of against what it has to tell, the tree against tree.Right, and sees that nothing that is handed in is changed; it tells the verdict's kind.
func holds(t *testing.T, e api.Env, p api.Piece) int {
	t.Helper()
	opers, tokens := slices.Clone(e.Opers), slices.Clone(p.Tokens)
	v, want := parse.Of(e, p), wanted(e, p.Tokens)
	if !equal(v, want) {
		t.Errorf("Of(%+v, %.900s) = %+v, not %+v", e, words(p.Tokens), v, want)
	}
	if v.Kind == api.VdTree && !tree.Right(e, p.Tokens[:len(p.Tokens)-1], v.Tree) {
		t.Errorf("Of(%+v, %.900s): %+v is no tree of it", e, words(p.Tokens), v.Tree)
	}
	if !slices.Equal(e.Opers, opers) || !slices.Equal(p.Tokens, tokens) {
		t.Errorf("%+v, %.900s has become %+v, %.900s", opers, words(tokens), e, words(p.Tokens))
	}
	return v.Kind
}

// P21.1: texts, and what becomes of them.
func TestTable(t *testing.T) {
	e := sums(t)
	syntax := func(at int) api.Verdict { return api.Verdict{Kind: api.VdSyntax, Code: api.ErrSyntax, At: at} }
	open := func(at int) api.Verdict { return api.Verdict{Kind: api.VdOpen, Code: api.ErrOpen, At: at} }
	lexical := func(code api.Errno, at int) api.Verdict {
		return api.Verdict{Kind: api.VdLexical, Code: code, At: at}
	}
	nodes := func(l ...api.Node) api.Verdict { return api.Verdict{Kind: api.VdTree, Tree: l} }
	two := api.Verdict{Kind: api.VdTwo, Code: api.ErrTwo}
	for _, c := range []struct {
		text string
		want api.Verdict
	}{
		{"a.", nodes(node(1, "a", 0, 1, 0))},
		{"X .", nodes(node(1, "X", 0, 1, 0))},
		{"007.", nodes(node(1, "007", 0, 1, 0))},
		{"'+'.", nodes(node(1, "+", 0, 1, 0))},
		{"'.'.", nodes(node(1, ".", 0, 1, 0))}, // between quotes it ends nothing
		{"%.\na/*.*/.%.", nodes(node(1, "a", 0, 1, 0))},
		{"(a).", nodes(node(2, "", 0, 3, 1), node(1, "a", 1, 2, 0))},
		{"[a].", nodes(node(3, "[_]", 0, 3, 1), node(1, "a", 1, 2, 0))},
		{"a + b.", nodes(node(3, "_+_", 0, 3, 2), node(1, "a", 0, 1, 0), node(1, "b", 2, 3, 0))},
		{"a + b * c.", nodes(node(3, "_+_", 0, 5, 2), node(1, "a", 0, 1, 0), node(3, "_*_", 2, 5, 2), node(1, "b", 2, 3, 0), node(1, "c", 4, 5, 0))},
		{"a + b + c.", nodes(node(3, "_+_", 0, 5, 2), node(3, "_+_", 0, 3, 2), node(1, "a", 0, 1, 0), node(1, "b", 2, 3, 0), node(1, "c", 4, 5, 0))},
		{"if a then if b then c else d.", two},
		{"(if a then if b then c else d) + e.", two},
		{"if a then if b then if c then d else e else f.", two}, // as many as three
		{"if a then (if b then c) else d.", nodes(node(3, "if_then_else_", 0, 11, 3), node(1, "a", 1, 2, 0), node(2, "", 3, 9, 1), node(3, "if_then_", 4, 8, 2), node(1, "b", 5, 6, 0), node(1, "c", 7, 8, 0), node(1, "d", 10, 11, 0))},
		{".", syntax(0)},
		{"+.a", open(2)}, // lexed as one symbol
		{"+ .", syntax(0)},
		{"a + .", syntax(2)}, // the chapter's
		{"a + b + .", syntax(4)},
		{"a b.", syntax(1)},
		{"a + ) b.", syntax(2)},
		{"a + b c + d.", syntax(3)},
		{"(a + b.", syntax(4)},
		{"a + b).", syntax(3)},
		{"(((((((( .", syntax(8)},
		{"a = b = c.", syntax(3)},
		{"if a.", syntax(2)},
		{"if a then b else.", syntax(5)},
		{"a is b + c.", syntax(3)},
		{"a , b.", syntax(1)},
		{":- op(3, yfx, +).", syntax(1)}, // a directive is a clause as others are
		{":- begin.", syntax(1)},
		{":- .", nodes(node(1, ":-", 0, 1, 0))},
		{"", open(0)},
		{" % a.", open(0)},
		{"a", open(1)},
		{"a + b", open(3)},
		{"a.b", open(3)},
		{"a '.'", open(2)},
		{"if a then if b then c else d", open(9)},
		{") + (", open(3)},
		{"\x01", lexical(api.ErrByte, 0)},
		{"\xff.", lexical(api.ErrUtf, 0)},
		{"a + \x01 .", lexical(api.ErrByte, 2)},
		{"2147483647 + 2147483648.", lexical(api.ErrBig, 2)},
		{"a + 'b", lexical(api.ErrQuote, 2)},
		{"a + 'b\\t'.", lexical(api.ErrEscape, 2)},
		{"a. /*", lexical(api.ErrComment, 2)}, // not cut into clauses
		{"a + b /* .", lexical(api.ErrComment, 3)},
		{"a \x01 \xff .", lexical(api.ErrByte, 1)}, // the first one
		{"a \xff \x01 .", lexical(api.ErrUtf, 1)},
		{"' 9999999999", lexical(api.ErrQuote, 0)},
	} {
		if v := parse.Of(e, piece(c.text)); !equal(v, c.want) {
			t.Errorf("Of %q = %+v, not %+v", c.text, v, c.want)
		}
		holds(t, e, piece(c.text))
	}
}

// P21.1: the same clause, by operators that are declared in several ways.
func TestDeclared(t *testing.T) {
	for _, c := range []struct {
		text     string
		kind, at int
		opers    []api.Oper
	}{
		{"a + .", api.VdSyntax, 2, []api.Oper{op("_+_", 3, 0)}}, // the chapter's
		{"a + .", api.VdTree, 0, []api.Oper{op("_+", 3, 0)}},
		{"a + .", api.VdSyntax, 1, []api.Oper{op("+_", 3, 0)}},
		{"a + .", api.VdSyntax, 1, nil},
		{"a + b + c.", api.VdTree, 0, []api.Oper{op("_+_", 3, 1)}},
		{"a + b + c.", api.VdTree, 0, []api.Oper{op("_+_", 3, 2)}},
		{"a + b + c.", api.VdSyntax, 3, []api.Oper{op("_+_", 3, 0)}},
		{"a + b + c.", api.VdTwo, 0, []api.Oper{op("_+_", 3, 1), op("_+_+_", 3, 0)}},
		{"a + b + c.", api.VdTree, 0, []api.Oper{op("_+_", 3, 0), op("_+_+_", 3, 0)}},
		{"a.", api.VdSyntax, 1, []api.Oper{op("a_", 3, 0)}},
		{"a.", api.VdSyntax, 0, []api.Oper{op("_a", 3, 0)}},
		{"a.", api.VdTree, 0, nil},
	} {
		e := of(t, c.opers...)
		if v := parse.Of(e, piece(c.text)); v.Kind != c.kind || v.At != c.at {
			t.Errorf("Of %q by %+v = %+v", c.text, c.opers, v)
		}
		holds(t, e, piece(c.text))
	}
}

// P21.1: how many tokens there may be ahead of the end: of clauses that have a tree, that have two, and that have none.
func TestMany(t *testing.T) {
	e := of(t, op("_+_", 3, 1), op("-_", 2, 2), op("_!", 4, 0), op("_!_", 5, 0), op("!_", 4, 0))
	for n := range 80 {
		for _, c := range []struct {
			text     string
			kind, at int
		}{
			{strings.Repeat("- ", n) + "a", api.VdTree, 0},
			{"a" + strings.Repeat(" + a", n), api.VdTree, 0},
			{"a" + strings.Repeat(" + a", n) + " ! ! a", api.VdTwo, 0},
			{strings.Repeat("- ", n), api.VdSyntax, n},
			{"a a" + strings.Repeat(" a", n), api.VdSyntax, 1},
		} {
			p := piece(c.text + " .")
			size := len(p.Tokens) - 1
			if v := parse.Of(e, p); size > 32 && !equal(v, api.Verdict{Kind: api.VdLimit, Code: api.ErrLimit}) || size <= 32 && (v.Kind != c.kind || v.At != c.at) {
				t.Errorf("of %d tokens: %q: %+v", size, c.text, v)
			}
			holds(t, e, p)
			holds(t, e, piece(c.text))
		}
	}
	p := piece(strings.Repeat("- ", 31) + "a .")
	if v := parse.Of(e, p); v.Kind != api.VdTree || len(v.Tree) != 32 {
		t.Errorf("of 32: %+v", v)
	}
	p.Tokens = slices.Insert(p.Tokens, 0, p.Tokens[0])
	if v := parse.Of(e, p); v.Kind != api.VdLimit {
		t.Errorf("of 33: %+v", v)
	}
}

// P21.1: how many brackets may be open at once, wherever they stand; others than ( and ), and quoted ones, are none.
func TestDeep(t *testing.T) {
	e := sums(t)
	limit := api.Verdict{Kind: api.VdLimit, Code: api.ErrLimit}
	rep := strings.Repeat
	for n := range 16 {
		for _, c := range []struct {
			text string
			kind int
			open int
		}{
			{rep("(", n) + "a" + rep(")", n), api.VdTree, n},
			{rep("(", n), api.VdSyntax, n},
			{rep(")", n+1) + "a", api.VdSyntax, 0},
			{rep(")", 9) + rep("(", n), api.VdSyntax, n}, // what shuts none makes no room
			{"(a) + (b) + " + rep("(", n), api.VdSyntax, max(n, 1)},
			{rep("(", n/2) + "a )" + rep("(", n-n/2), api.VdSyntax, max(n/2, max(n/2-1, 0)+n-n/2)},
			{rep("- ", 32-n) + rep("(", n), api.VdSyntax, n}, // as far behind as they may stand
			{rep("[", n) + "a" + rep("]", n), api.VdTree, 0},
			{rep("- ", n) + "'('", api.VdTree, 0},
			{rep("'(' ", n+2), api.VdSyntax, 0},
			{rep("([", n/2) + "a" + rep("])", n/2), api.VdTree, n / 2},
			{rep("('(' + ", n) + "a" + rep(")", n), api.VdTree, n},
		} {
			p := piece(c.text + " .")
			over := c.open > 8 || len(p.Tokens) > 33
			if v := parse.Of(e, p); over && !equal(v, limit) || !over && v.Kind != c.kind {
				t.Errorf("%s: %+v", c.text, v)
			}
			holds(t, e, p)
		}
	}
}

// P21.1: of several lines that are so the first one.
func TestOrder(t *testing.T) {
	e := sums(t)
	deep, long := strings.Repeat("(", 9), strings.Repeat("a + ", 17)
	for _, c := range []struct {
		text string
		kind int
		code api.Errno
		at   int
	}{
		{"a \x01", api.VdLexical, api.ErrByte, 1}, // it does not end either
		{"a . 'b", api.VdLexical, api.ErrQuote, 2},
		{deep + " \x01 .", api.VdLexical, api.ErrByte, 9}, // too deep
		{"\x01 " + deep, api.VdLexical, api.ErrByte, 0},   // too deep, and no end
		{long + "\x01 .", api.VdLexical, api.ErrByte, 34}, // too many
		{long + "'b", api.VdLexical, api.ErrQuote, 34},    // too many, and no end
		{"\x01 " + long, api.VdLexical, api.ErrByte, 0},
		{"a b \x01 .", api.VdLexical, api.ErrByte, 2}, // no tree
		{"if a then if b then c else d 'b\n.", api.VdLexical, api.ErrQuote, 9},
		{deep, api.VdOpen, api.ErrOpen, 9}, // too deep
		{long, api.VdOpen, api.ErrOpen, 34},
		{long + ". a", api.VdOpen, api.ErrOpen, 36},
		{"a b", api.VdOpen, api.ErrOpen, 2},
		{"if a then if b then c else d", api.VdOpen, api.ErrOpen, 9},
		{deep + " .", api.VdLimit, api.ErrLimit, 0}, // no tree
		{deep + "a" + strings.Repeat(")", 9) + ".", api.VdLimit, api.ErrLimit, 0},
		{deep + "if a then if b then c else d" + strings.Repeat(")", 9) + ".", api.VdLimit, api.ErrLimit, 0},
		{long + ".", api.VdLimit, api.ErrLimit, 0},
		{long + "a.", api.VdLimit, api.ErrLimit, 0},
		{long + "if a then if b then c else d.", api.VdLimit, api.ErrLimit, 0},
		{long + deep + " .", api.VdLimit, api.ErrLimit, 0},
	} {
		p := piece(c.text)
		if v := parse.Of(e, p); !equal(v, api.Verdict{Kind: c.kind, Code: c.code, At: c.at}) {
			t.Errorf("Of %q = %+v", c.text, v)
		}
		holds(t, e, p)
	}
}

// P21.1: all rows of few tokens of few words, among them ends and bad ones at each place.
func TestAll(t *testing.T) {
	bad := []api.Token{{Kind: api.TkBad, Code: api.ErrByte}, {Kind: api.TkBad, Code: api.ErrUtf}}
	for _, c := range []struct {
		words string
		few   int
		opers []api.Oper
	}{
		{"X + .", 5, []api.Oper{op("_+_", 3, 1), op("+_", 2, 0)}},
		{"X ( ) .", 5, nil},
		{"X '.' . +", 5, []api.Oper{op("_+", 3, 1), op("+_", 2, 2), op("_+_", 3, 0)}},
		{"a if then .", 5, []api.Oper{op("if_then_", 3, 2)}},
	} {
		e, some := of(t, c.opers...), append(lex.All([]byte(c.words)), bad...)
		for i := range some {
			if some[i].Text == "." && some[i].Kind == api.TkSymbol {
				some[i].Kind = api.TkEnd
			}
		}
		kinds := map[int]bool{}
		var all func(l []api.Token)
		all = func(l []api.Token) {
			kinds[holds(t, e, api.Piece{Tokens: l})] = true
			for i := 0; i < len(some) && len(l) < c.few; i++ {
				all(append(slices.Clip(l), some[i]))
			}
		}
		all(nil)
		if !kinds[api.VdTree] || !kinds[api.VdSyntax] || !kinds[api.VdLexical] || !kinds[api.VdOpen] {
			t.Errorf("%s: only %v", c.words, kinds)
		}
	}
}

// P21.1: a token is a bad one, an end, a bracket by its kind, whatever it says, and whatever number its kind is.
func TestKinds(t *testing.T) {
	e := of(t, op("_+_", 3, 1), op("-_", 2, 2), op("[_]", 3, 0))
	kinds := []int{math.MinInt, math.MaxInt, 1 << 32, 1<<32 + 7, 1<<32 + 8, -7, -8, 263, 264}
	for kind := -2; kind <= 12; kind++ {
		kinds = append(kinds, kind)
	}
	for _, kind := range kinds {
		for _, text := range []string{"", ".", "a", "+", "(", ")", "X", "end"} {
			k := api.Token{Kind: kind, Text: text, Code: api.ErrEscape}
			for _, clause := range []string{"a", "a.", "a + b.", "(a).", "a + .", "a b c.", "a. b.", "[(((((((a))))))].", "((((((((a)))))))).", strings.Repeat("- ", 31) + "a ."} {
				for at := range lex.All([]byte(clause)) {
					p := piece(clause)
					p.Tokens[at] = k
					holds(t, e, p)
				}
			}
			behind(t, e, k)
		}
	}
}

// behind holds Of of a and k against what k, which may have any code, makes of it.
func behind(t *testing.T, e api.Env, k api.Token) {
	t.Helper()
	for _, k.Code = range []api.Errno{0, 4, 10, 33, -1, math.MinInt, math.MaxInt} {
		want := api.Verdict{Kind: api.VdOpen, Code: api.ErrOpen, At: 2}
		switch k.Kind {
		case 7:
			want = api.Verdict{Kind: api.VdTree, Tree: []api.Node{node(1, "a", 0, 1, 0)}}
		case 8:
			want = api.Verdict{Kind: api.VdLexical, Code: k.Code, At: 1}
		}
		p := piece("a.")
		p.Tokens[1] = k
		if v := parse.Of(e, p); !equal(v, want) {
			t.Errorf("behind a %+v: %+v", k, v)
		}
	}
}

// anyOper is an operator of that pattern, and of any group and associativity that it may have; most are of few groups.
func anyOper(c *rand.Rand, pattern string) api.Oper {
	o := op(pattern, 1+c.IntN(3), c.IntN(3))
	if c.IntN(3) == 0 {
		o.Group = 1 + c.IntN(9)
	}
	if o.Assoc == api.AsLeft && !strings.HasPrefix(pattern, "_") || o.Assoc == api.AsRight && !strings.HasSuffix(pattern, "_") {
		o.Assoc = api.AsNon
	}
	return o
}

// anyEnv is some of these patterns; which groups are tighter comes from where graph.Start begins.
func anyEnv(t *testing.T, c *rand.Rand, patterns []string, most int) api.Env {
	t.Helper()
	var l []api.Oper
	for range c.IntN(most + 1) {
		l = append(l, anyOper(c, patterns[c.IntN(len(patterns))]))
	}
	return edged(c, of(t, l...))
}

// fullEnv is as many operators as there may be.
func fullEnv(t *testing.T, c *rand.Rand) api.Env {
	t.Helper()
	some := slices.Concat(patterns, alike, lone)
	slices.Sort(some)
	some = slices.Compact(some)
	c.Shuffle(len(some), func(i, k int) { some[i], some[k] = some[k], some[i] })
	var l []api.Oper
	for _, pattern := range some[:api.MaxOpers] {
		l = append(l, anyOper(c, pattern))
	}
	return edged(c, of(t, l...))
}

// edged is e with a few more edges.
func edged(c *rand.Rand, e api.Env) api.Env {
	for range c.IntN(4) {
		if f, code := env.Edge(e, 1+c.IntN(9), 1+c.IntN(9)); code == api.OK {
			e = f
		}
	}
	return e
}

// grown is tokens of a tree, but for how its operators fit: of few operators, or none, as deep as is said.
func grown(c *rand.Rand, e api.Env, deep int) []api.Token {
	most := 8
	if deep <= 0 {
		most = 2
	}
	pick := c.IntN(most)
	if pick > 2 && len(e.Opers) > 0 {
		var l []api.Token
		for i, name := range strings.Split(e.Opers[c.IntN(len(e.Opers))].Pattern, "_") {
			if i > 0 {
				l = append(l, grown(c, e, deep-1)...)
			}
			l = append(l, lex.All([]byte(name))...)
		}
		return l
	}
	if pick == 2 {
		return slices.Concat(lex.All([]byte("(")), grown(c, e, deep-1), lex.All([]byte(")")))
	}
	return lex.All([]byte([]string{"p", "X", "7", "'+'", "&&"}[c.IntN(5)]))
}

// clause is grown, often with a token of it gone, said twice, in another's place, or another one, and most often with an end.
func clause(c *rand.Rand, e api.Env) api.Piece {
	l := grown(c, e, 1+c.IntN(5))
	for range c.IntN(3) {
		i, k := c.IntN(len(l)), c.IntN(len(l))
		switch c.IntN(5) {
		case 0:
			l = slices.Insert(l, k, l[i])
		case 1:
			l[i], l[k] = l[k], l[i]
		case 2:
			l[i] = grown(c, e, 2)[0]
		case 3:
			if len(l) > 1 {
				l = slices.Delete(l, i, i+1)
			}
		default:
			l = l[:i+1]
		}
	}
	if c.IntN(25) == 0 {
		l[c.IntN(len(l))] = api.Token{Kind: api.TkBad, Code: api.Errno(c.IntN(40))}
	}
	if c.IntN(25) > 0 {
		l = append(l, api.Token{Kind: api.TkEnd, Text: "."})
	}
	return api.Piece{Tokens: l}
}

// P21.1: envs and clauses of all kinds.
func TestRandom(t *testing.T) {
	kinds := map[int]int{}
	for seed := range uint64(8000) {
		c := rand.New(rand.NewPCG(seed, 211))
		e := anyEnv(t, c, [][]string{patterns, alike}[seed%2], 1+c.IntN(api.MaxOpers))
		if seed%4 == 0 {
			e = fullEnv(t, c)
		}
		kinds[holds(t, e, clause(c, e))]++
	}
	for _, kind := range []int{api.VdTree, api.VdTwo, api.VdSyntax, api.VdLimit, api.VdLexical, api.VdOpen} {
		if kinds[kind] < 40 {
			t.Errorf("of kind %d only %d", kind, kinds[kind])
		}
	}
}

// P21.1: clauses as they stand in texts, of bytes of all kinds.
func TestPieces(t *testing.T) {
	kinds := map[int]int{}
	bits := []string{"a", "X", "+", "-", "if", "then", "else", "(", ")", "[", "]", ".", ". ", ".\n", " ", " ", "'a.'", "7", "99999999999", "\xff", "\x01", "'", "/*", "*/", "%", "\n", "!", "is", ":-", "begin", ","}
	for seed := range uint64(3000) {
		c := rand.New(rand.NewPCG(seed, 212))
		var text strings.Builder
		few := 1 + c.IntN(len(bits))
		for range c.IntN(60) {
			text.WriteString(bits[c.IntN(few)])
			text.WriteString([]string{"", " "}[c.IntN(2)])
		}
		for _, p := range split.Pieces([]byte(text.String())) {
			kinds[holds(t, sums(t), p)]++
		}
	}
	for _, kind := range []int{api.VdTree, api.VdSyntax, api.VdLexical, api.VdOpen} {
		if kinds[kind] < 40 {
			t.Errorf("of kind %d only %d", kind, kinds[kind])
		}
	}
}

// P21.2: where the clause stands, and where its tokens do, does not matter; neither does why a token is bad that is none.
func TestPlaces(t *testing.T) {
	for seed := range uint64(600) {
		c := rand.New(rand.NewPCG(seed, 213))
		e := anyEnv(t, c, patterns, 8)
		p := clause(c, e)
		v := parse.Of(e, p)
		q := api.Piece{From: int(c.Uint64()), To: int(c.Uint64()), First: int(c.Uint64()), Tokens: slices.Clone(p.Tokens)}
		for i := range q.Tokens {
			k := &q.Tokens[i]
			k.From, k.To = int(c.Uint64()), c.IntN(99)-9
			if k.Kind != api.TkBad {
				k.Code = api.Errno(c.IntN(40))
			}
		}
		if w := parse.Of(e, q); !equal(v, w) {
			t.Errorf("%s: %+v, and %+v", words(p.Tokens), v, w)
		}
	}
}

// same tells whether all names of p stand for the same in e and in f.
func same(e, f api.Env, p api.Piece) bool {
	for _, name := range split.Names(p) {
		if !env.Same(e, f, name) {
			return false
		}
	}
	return true
}

// other is e with operators of which p may have a part, or not, added, gone, and declared anew, and with other edges.
func other(t *testing.T, c *rand.Rand, e api.Env, patterns []string, p api.Piece) api.Env {
	t.Helper()
	f := env.New()
	if c.IntN(2) == 0 {
		f.Rows = e.Rows
	}
	for _, o := range e.Opers {
		if c.IntN(3) > 0 || !apart(o, p) {
			f, _ = env.Add(f, o)
		}
	}
	for range c.IntN(6) {
		if o := anyOper(c, patterns[c.IntN(len(patterns))]); c.IntN(9) == 0 || apart(o, p) {
			if g, code := env.Add(f, o); code == api.OK {
				f = g
			}
		}
	}
	if c.IntN(2) == 0 {
		f = edged(c, f)
	}
	return f
}

// apart tells whether no name of p is a part of o.
func apart(o api.Oper, p api.Piece) bool {
	names := split.Names(p)
	return !slices.ContainsFunc(strings.Split(o.Pattern, "_"), func(part string) bool { return slices.Contains(names, part) })
}

// P21.2: what no name of a clause stands for does not matter to it: operators of which it has no part (even ones that could stand between two of those that it has, and of which no part has come yet), and which groups are tighter than others than theirs.
func TestNames(t *testing.T) {
	like, unlike, turned := map[int]int{}, 0, 0
	for seed := range uint64(24000) {
		c := rand.New(rand.NewPCG(seed, 214))
		some := [][]string{patterns, slices.Concat(alike, lone), lone, few}[seed%4]
		e := anyEnv(t, c, some, 1+c.IntN(12))
		p := clause(c, e)
		f := other(t, c, e, some, p)
		v, w := parse.Of(e, p), parse.Of(f, p)
		switch {
		case !same(e, f, p):
			unlike++
			if !equal(v, w) {
				turned++
			}
		case !equal(v, w):
			t.Errorf("%s: by %+v %+v, by %+v %+v", words(p.Tokens), e, v, f, w)
		case !slices.Equal(e.Opers, f.Opers) || e.Rows != f.Rows:
			like[v.Kind]++
		}
	}
	for _, kind := range []int{api.VdTree, api.VdTwo, api.VdSyntax} {
		if like[kind] < 60 {
			t.Errorf("of kind %d only %d", kind, like[kind])
		}
	}
	if unlike < 500 || turned < 100 {
		t.Errorf("of others %d, of which %d became something else", unlike, turned)
	}
}

// P21.2: every operator that could stand between two of a clause's, of each group and associativity, by edges of all kinds: none of them changes how far it goes.
func TestBetween(t *testing.T) {
	lent := 0
	for seed := range uint64(60) {
		c := rand.New(rand.NewPCG(seed, 215))
		outer, inner := anyOper(c, []string{"-_", "_-_", "_-"}[c.IntN(3)]), anyOper(c, []string{"*_", "_*_", "_*"}[c.IntN(3)])
		e := edged(c, of(t, outer, inner))
		for _, text := range []string{"- * a", "- a *", "a - * b", "a - b * c", "a * b - c", "a * -", "a * - b", "a - *", "(- * a)", "- a * b", "* - a", "* a -", "a - - * b", "a - b * * c"} {
			p := piece(text + " .")
			v := parse.Of(e, p)
			for _, pattern := range []string{"_+_", "+_", "_+", "+_+", "_+_+_"} {
				for group := 1; group < api.Groups; group++ {
					for assoc := range 3 {
						f, code := env.Add(e, op(pattern, group, assoc))
						if code != api.OK {
							continue
						}
						lent++
						if w := parse.Of(f, p); !equal(v, w) {
							t.Errorf("%s: by %+v %+v, by %+v %+v", text, e, v, f, w)
						}
					}
				}
			}
		}
	}
	if lent < 60000 {
		t.Errorf("only %d", lent)
	}
}

// R6, R7: a second call tells the same, whatever was asked between, and what becomes of an env and of tokens that were handed in, or of a tree that was told.
func TestAgain(t *testing.T) {
	e := sums(t)
	for range 3 {
		for _, c := range []struct{ text, other string }{
			{"(a + b) * [c !].", "a b."},
			{"a.", "if a then if b then c else d."},
			{"a + b + c.", "a + b + c + d."},
			{"a + .", ""},
			{"a + \x01", "a + b."},
		} {
			f, p := api.Env{Opers: slices.Clone(e.Opers), Rows: e.Rows}, piece(c.text)
			v, want := parse.Of(f, p), wanted(e, piece(c.text).Tokens)
			again := parse.Of(f, p)
			clear(f.Opers)
			clear(p.Tokens)
			parse.Of(e, piece(c.other))
			if !equal(v, want) {
				t.Errorf("Of %q = %+v", c.text, v)
			}
			v.Tree = append(v.Tree, node(9, "z", 9, 9, 9))
			clear(v.Tree)
			if third := parse.Of(e, piece(c.text)); !equal(again, want) || !equal(third, want) {
				t.Errorf("Of %q = %+v, then %+v", c.text, again, third)
			}
		}
	}
}

// R1: nothing panics, of no env, of no tokens, of a great many of them, and of operators that may not be, though these are not asked of.
func TestWrong(t *testing.T) {
	if v := parse.Of(api.Env{}, api.Piece{}); !equal(v, api.Verdict{Kind: api.VdOpen, Code: api.ErrOpen}) {
		t.Errorf("of nothing: %+v", v)
	}
	if v := parse.Of(api.Env{}, piece("a + b.")); !equal(v, api.Verdict{Kind: api.VdSyntax, Code: api.ErrSyntax, At: 1}) {
		t.Errorf("without an env: %+v", v)
	}
	for _, end := range []string{"", " ."} {
		for _, text := range []string{strings.Repeat("(", 1<<15), strings.Repeat("a + ", 1<<15), strings.Repeat("a . ", 1<<14)} {
			holdsGreat(t, sums(t), text+end)
		}
	}
	for _, pattern := range []string{"", "_", "x", "_,_", "(_)", "x__y", "_X_"} {
		for _, number := range []int{math.MinInt, -1, 0, 10, 64, math.MaxInt} {
			e := api.Env{Opers: []api.Oper{op(pattern, number, number), op("_+_", number, number)}, Rows: api.Rows{3: number}}
			for _, text := range []string{"a + b.", "a + b + c.", "x.", "(x).", "a , b.", ".", "+ .", "x y."} {
				parse.Of(e, piece(text))
			}
		}
	}
}

// holdsGreat holds Of of a great many tokens against what is told of them by their number, their end, and a bad one in their place.
func holdsGreat(t *testing.T, e api.Env, text string) {
	t.Helper()
	p := piece(text)
	want := api.Verdict{Kind: api.VdOpen, Code: api.ErrOpen, At: len(p.Tokens)}
	if strings.HasSuffix(text, ".") || strings.HasSuffix(text, ". ") {
		want = api.Verdict{Kind: api.VdLimit, Code: api.ErrLimit}
	}
	if v := parse.Of(e, p); !equal(v, want) {
		t.Errorf("of %d tokens: %+v", len(p.Tokens), v)
	}
	last := len(p.Tokens) - 1
	p.Tokens[last] = api.Token{Kind: api.TkBad, Code: api.ErrComment}
	if v := parse.Of(e, p); !equal(v, api.Verdict{Kind: api.VdLexical, Code: api.ErrComment, At: last}) {
		t.Errorf("of %d tokens, the last one bad: %+v", len(p.Tokens), v)
	}
}
