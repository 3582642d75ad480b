package derive_test

import (
	"fmt"
	"math/rand/v2"
	"slices"
	"strings"
	"testing"

	"tmesis/api"
	"tmesis/derive"
	"tmesis/env"
	"tmesis/fits"
	"tmesis/lex"
	"tmesis/shape"
	"tmesis/tree"
)

// patterns is some that have a shape: with holes at both ends, at the right one, at the left one, and at none; some of them share their parts.
var patterns = []string{"_+_", "_*_", "_?_:_", "-_", "if_then_", "if_then_else_", "_!", "_[_]", "[_]", "|_|", "_a_b_c_d_", "_-_", "_a_a", "_+", "+_", "_+_+_"}

// alike is some that have few parts, so that one row of tokens may come from several of them.
var alike = []string{"_+_", "_+", "+_", "_+_+_", "+_+", "_-_", "-_", "_-", "_+_-_", "if_then_", "if_then_else_", "_[_]", "[_]", "[_+_]"}

// op is an operator.
func op(pattern string, group, assoc int) api.Oper {
	return api.Oper{Pattern: pattern, Group: group, Assoc: assoc}
}

// of is an env of the ladder with these operators, each of which has to be one that may be.
func of(t *testing.T, l ...api.Oper) api.Env {
	t.Helper()
	e := env.New()
	for _, o := range l {
		var code api.Errno
		if e, code = env.Add(e, o); code != api.OK {
			t.Fatalf("%+v: %d", o, code)
		}
	}
	return e
}

// node is a node.
func node(kind int, name string, from, to, kids int) api.Node {
	return api.Node{Kind: kind, Name: name, From: from, To: to, Kids: kids}
}

// opening and closing tell whether a token is such a bracket.
func opening(t api.Token) bool { return t.Kind == api.TkSolo && t.Text == "(" }
func closing(t api.Token) bool { return t.Kind == api.TkSolo && t.Text == ")" }

// all is each tree that derives the tokens of l from one place to ahead of another one, one by one, without knowing what was asked before.
func all(e api.Env, l []api.Token, from, to int) [][]api.Node {
	var out [][]api.Node
	if to-from == 1 && fits.Leaf(e, l[from]) {
		out = append(out, []api.Node{node(1, l[from].Text, from, to, 0)})
	}
	if to-from > 2 && opening(l[from]) && closing(l[to-1]) {
		for _, kid := range all(e, l, from+1, to-1) {
			out = append(out, append([]api.Node{node(2, "", from, to, 1)}, kid...))
		}
	}
	for _, o := range e.Opers {
		for _, below := range fills(e, o, l, o.Pattern, from, to) {
			out = append(out, append([]api.Node{node(3, o.Pattern, from, to, strings.Count(o.Pattern, "_"))}, below...))
		}
	}
	return out
}

// fills is each row of kids by which what is left of the pattern of o derives these tokens.
func fills(e api.Env, o api.Oper, l []api.Token, left string, from, to int) [][]api.Node {
	if left == "" {
		if from == to {
			return [][]api.Node{nil}
		}
		return nil
	}
	name, _, _ := strings.Cut(left, "_")
	if name != "" {
		if from == to || !fits.Part(l[from], name) {
			return nil
		}
		return fills(e, o, l, left[len(name):], from+1, to)
	}
	var out [][]api.Node
	for end := from + 1; end <= to; end++ {
		rests := fills(e, o, l, left[1:], end, to)
		if rests == nil {
			continue
		}
		for _, kid := range all(e, l, from, end) {
			if left == o.Pattern && !takes(e, o, kid[0], false) || left == "_" && !takes(e, o, kid[0], true) {
				continue
			}
			for _, rest := range rests {
				out = append(out, slices.Concat(kid, rest))
			}
		}
	}
	return out
}

// takes tells whether a kid may stand at an end of o.
func takes(e api.Env, o api.Oper, kid api.Node, right bool) bool {
	for _, k := range e.Opers {
		if kid.Kind == 3 && k.Pattern == kid.Name {
			return fits.Fits(e.Rows, o, k, right)
		}
	}
	return true
}

// lots is where the counting of the table ends.
const lots = 1000

// table counts the trees of all tokens from here to there, the few ahead of the many, and by what stands at the top: the operators of e, and behind them what is none. The counting is that of the numbers; no tree is made.
type table struct {
	e     api.Env
	l     []api.Token
	parts [][]string
	fit   [2][][]bool
	top   [][][]int
}

// count is how many trees derive l, lots at most.
func count(e api.Env, l []api.Token) int {
	if len(l) == 0 {
		return 0
	}
	c := table{e: e, l: l, top: make([][][]int, len(l)+1)}
	for i, o := range e.Opers {
		c.parts = append(c.parts, strings.Split(o.Pattern, "_"))
		for side := range 2 {
			c.fit[side] = append(c.fit[side], nil)
			for _, k := range e.Opers {
				c.fit[side][i] = append(c.fit[side][i], fits.Fits(e.Rows, o, k, side == 1))
			}
		}
	}
	for from := range c.top {
		c.top[from] = make([][]int, len(l)+1)
	}
	for wide := 1; wide <= len(l); wide++ {
		for from := 0; from+wide <= len(l); from++ {
			c.top[from][from+wide] = c.tops(from, from+wide)
		}
	}
	return sum(c.top[0][len(l)], nil)
}

// sum is how many of these there are, of the operators that fit; nil lets all.
func sum(many []int, fit []bool) int {
	n := 0
	for i, m := range many {
		if fit == nil || i >= len(fit) || fit[i] {
			n += m
		}
	}
	return min(n, lots)
}

// tops counts the trees of some tokens, when those of fewer tokens are counted.
func (c *table) tops(from, to int) []int {
	out := make([]int, len(c.e.Opers)+1)
	for i := range c.e.Opers {
		out[i] = c.oper(i, from, to)
	}
	if to == from+1 && fits.Leaf(c.e, c.l[from]) {
		out[len(out)-1]++
	}
	if to > from+2 && opening(c.l[from]) && closing(c.l[to-1]) {
		out[len(out)-1] += sum(c.top[from+1][to-1], nil)
	}
	return out
}

// oper counts the trees that have the operator i at the top: at[p] is in how many ways what has come of it so far derives the tokens from from to ahead of p.
func (c *table) oper(i, from, to int) int {
	at := make([]int, to+1)
	at[from] = 1
	for n, name := range c.parts[i] {
		if n > 0 {
			var fit []bool
			if n == 1 && c.parts[i][0] == "" {
				fit = c.fit[0][i]
			} else if n == len(c.parts[i])-1 && name == "" {
				fit = c.fit[1][i]
			}
			next := make([]int, to+1)
			for p := from; p <= to; p++ {
				for q := p + 1; at[p] > 0 && q <= to; q++ {
					next[q] = min(lots, next[q]+at[p]*sum(c.top[p][q], fit))
				}
			}
			at = next
		}
		if name != "" {
			next := make([]int, to+1)
			for p := from; p < to; p++ {
				if fits.Part(c.l[p], name) {
					next[p+1] = at[p]
				}
			}
			at = next
		}
	}
	return at[to]
}

// holds holds Count against how many trees there are, and the tree against Right, and sees that nothing that is handed in is changed.
func holds(t *testing.T, e api.Env, l []api.Token, many int) int {
	t.Helper()
	opers, tokens := slices.Clone(e.Opers), slices.Clone(l)
	n, one := derive.Count(e, l)
	if n != min(many, 2) {
		t.Errorf("Count(%+v, %.900s) = %d of %d", e, words(l), n, many)
	}
	if n == 1 && !tree.Right(e, l, one) || n != 1 && len(one) > 0 {
		t.Errorf("Count(%+v, %.900s) = %d, %+v", e, words(l), n, one)
	}
	if !slices.Equal(e.Opers, opers) || !slices.Equal(l, tokens) {
		t.Errorf("%+v, %.900s has become %+v, %.900s", opers, words(tokens), e, words(l))
	}
	return n
}

// words is what tokens say.
func words(l []api.Token) string {
	var s []string
	for _, t := range l {
		s = append(s, fmt.Sprint(t.Kind, ":", t.Text))
	}
	return strings.Join(s, " ")
}

// grown is tokens of a tree, but for how its operators fit: of few operators, or none, as deep as is said.
func grown(c *rand.Rand, e api.Env, deep int) []api.Token {
	most := 8
	if deep <= 0 {
		most = 2
	}
	pick := c.IntN(most)
	if pick > 2 && len(e.Opers) > 0 {
		var l []api.Token
		for i, name := range strings.Split(e.Opers[c.IntN(len(e.Opers))].Pattern, "_") {
			if i > 0 {
				l = append(l, grown(c, e, deep-1)...)
			}
			l = append(l, lex.All([]byte(name))...)
		}
		return l
	}
	if pick == 2 {
		return slices.Concat(lex.All([]byte("(")), grown(c, e, deep-1), lex.All([]byte(")")))
	}
	return lex.All([]byte([]string{"p", "X", "7", "'+'", "&"}[c.IntN(5)]))
}

// few is grown of as many tokens as Count is asked of, at most: the longest of some, as most are short.
func few(c *rand.Rand, e api.Env, deep int) []api.Token {
	var few []api.Token
	for tries := c.IntN(5); tries >= 0 || few == nil; tries-- {
		if l := grown(c, e, deep); len(l) > len(few) && len(l) <= api.MaxTokens {
			few = l
		}
	}
	return few
}

// anyOper is an operator of that pattern, and of any group and associativity that it may have; most are of few groups.
func anyOper(c *rand.Rand, pattern string) api.Oper {
	o := op(pattern, 1+c.IntN(3), c.IntN(3))
	if c.IntN(4) == 0 {
		o.Group = 1 + c.IntN(9)
	}
	if o.Assoc == api.AsLeft && !strings.HasPrefix(pattern, "_") || o.Assoc == api.AsRight && !strings.HasSuffix(pattern, "_") {
		o.Assoc = api.AsNon
	}
	return o
}

// anyEnv is some of these patterns; which groups are tighter comes from where graph.Start begins.
func anyEnv(t *testing.T, c *rand.Rand, patterns []string, most int) api.Env {
	t.Helper()
	var l []api.Oper
	for range c.IntN(most + 1) {
		l = append(l, anyOper(c, patterns[c.IntN(len(patterns))]))
	}
	e := of(t, l...)
	for range c.IntN(4) {
		if f, code := env.Edge(e, 1+c.IntN(9), 1+c.IntN(9)); code == api.OK {
			e = f
		}
	}
	return e
}

// sums is an env of the operators that the table is about.
func sums(t *testing.T) api.Env {
	return of(t, op("[_]", 9, 0), op("_!", 1, 1), op("_*_", 2, 1), op("_+_", 3, 1), op("_^_", 1, 2), op("if_then_", 5, 2), op("if_then_else_", 5, 2), op("-_", 2, 2), op("_=_", 4, 0), op("_?_:_", 5, 2), op("_is_", 7, 0), op("_;_", 6, 1), op("_<>_", 6, 2))
}

// P19.1: texts, how many trees there are, and which one.
func TestTable(t *testing.T) {
	e := sums(t)
	for _, c := range []struct {
		text string
		many int
		tree []api.Node
	}{
		{"", 0, nil},
		{"a", 1, []api.Node{node(1, "a", 0, 1, 0)}},
		{"X", 1, []api.Node{node(1, "X", 0, 1, 0)}},
		{"007", 1, []api.Node{node(1, "007", 0, 1, 0)}},
		{"'+'", 1, []api.Node{node(1, "+", 0, 1, 0)}},
		{"''", 1, []api.Node{node(1, "", 0, 1, 0)}},
		{"+", 0, nil}, // a part does not stand alone
		{"then", 0, nil},
		{"[", 0, nil},
		{"|", 0, nil},
		{"(", 0, nil},
		{")", 0, nil},
		{"()", 0, nil},
		{"[]", 0, nil},
		{"(+)", 0, nil},
		{"(a", 0, nil},
		{"a)", 0, nil},
		{"a b", 0, nil},
		{"(a)", 1, []api.Node{node(2, "", 0, 3, 1), node(1, "a", 1, 2, 0)}},
		{"((a))", 1, []api.Node{node(2, "", 0, 5, 1), node(2, "", 1, 4, 1), node(1, "a", 2, 3, 0)}},
		{"(a)(b)", 0, nil},
		{"[a]", 1, []api.Node{node(3, "[_]", 0, 3, 1), node(1, "a", 1, 2, 0)}},
		{"a!", 1, []api.Node{node(3, "_!", 0, 2, 1), node(1, "a", 0, 1, 0)}},
		{"a ! !", 1, []api.Node{node(3, "_!", 0, 3, 1), node(3, "_!", 0, 2, 1), node(1, "a", 0, 1, 0)}},
		{"! a", 0, nil},
		{"- a", 1, []api.Node{node(3, "-_", 0, 2, 1), node(1, "a", 1, 2, 0)}},
		{"a -", 0, nil},
		{"- a !", 1, []api.Node{node(3, "-_", 0, 3, 1), node(3, "_!", 1, 3, 1), node(1, "a", 1, 2, 0)}},
		{"a + b", 1, []api.Node{node(3, "_+_", 0, 3, 2), node(1, "a", 0, 1, 0), node(1, "b", 2, 3, 0)}},
		{"a + b + c", 1, []api.Node{node(3, "_+_", 0, 5, 2), node(3, "_+_", 0, 3, 2), node(1, "a", 0, 1, 0), node(1, "b", 2, 3, 0), node(1, "c", 4, 5, 0)}}, // the chapter's
		{"a ^ b ^ c", 1, []api.Node{node(3, "_^_", 0, 5, 2), node(1, "a", 0, 1, 0), node(3, "_^_", 2, 5, 2), node(1, "b", 2, 3, 0), node(1, "c", 4, 5, 0)}},
		{"a = b = c", 0, nil},
		{"(a = b) = c", 1, []api.Node{node(3, "_=_", 0, 7, 2), node(2, "", 0, 5, 1), node(3, "_=_", 1, 4, 2), node(1, "a", 1, 2, 0), node(1, "b", 3, 4, 0), node(1, "c", 6, 7, 0)}},
		{"a + b * c", 1, []api.Node{node(3, "_+_", 0, 5, 2), node(1, "a", 0, 1, 0), node(3, "_*_", 2, 5, 2), node(1, "b", 2, 3, 0), node(1, "c", 4, 5, 0)}},
		{"a * b + c", 1, []api.Node{node(3, "_+_", 0, 5, 2), node(3, "_*_", 0, 3, 2), node(1, "a", 0, 1, 0), node(1, "b", 2, 3, 0), node(1, "c", 4, 5, 0)}},
		{"[a + b] ^ c", 1, []api.Node{node(3, "_^_", 0, 7, 2), node(3, "[_]", 0, 5, 1), node(3, "_+_", 1, 4, 2), node(1, "a", 1, 2, 0), node(1, "b", 3, 4, 0), node(1, "c", 6, 7, 0)}},
		{"a ? b = c : d", 1, []api.Node{node(3, "_?_:_", 0, 7, 3), node(1, "a", 0, 1, 0), node(3, "_=_", 2, 5, 2), node(1, "b", 2, 3, 0), node(1, "c", 4, 5, 0), node(1, "d", 6, 7, 0)}},
		{"a ? b ? c : d : e", 1, []api.Node{node(3, "_?_:_", 0, 9, 3), node(1, "a", 0, 1, 0), node(3, "_?_:_", 2, 7, 3), node(1, "b", 2, 3, 0), node(1, "c", 4, 5, 0), node(1, "d", 6, 7, 0), node(1, "e", 8, 9, 0)}},
		{"a is b", 1, []api.Node{node(3, "_is_", 0, 3, 2), node(1, "a", 0, 1, 0), node(1, "b", 2, 3, 0)}},
		{"a is b + c", 0, nil}, // nothing is tighter than 7
		{"a is (b + c)", 1, []api.Node{node(3, "_is_", 0, 7, 2), node(1, "a", 0, 1, 0), node(2, "", 2, 7, 1), node(3, "_+_", 3, 6, 2), node(1, "b", 3, 4, 0), node(1, "c", 5, 6, 0)}},
		{"a ; b <> c", 0, nil}, // of one group, but not both of one side
		{"a <> b ; c", 0, nil},
		{"if a then b", 1, []api.Node{node(3, "if_then_", 0, 4, 2), node(1, "a", 1, 2, 0), node(1, "b", 3, 4, 0)}},
		{"if a then b else", 0, nil},
		{"if a then if b then c else d", 2, nil}, // the chapter's
		{"if a then (if b then c) else d", 1, []api.Node{node(3, "if_then_else_", 0, 11, 3), node(1, "a", 1, 2, 0), node(2, "", 3, 9, 1), node(3, "if_then_", 4, 8, 2), node(1, "b", 5, 6, 0), node(1, "c", 7, 8, 0), node(1, "d", 10, 11, 0)}},
		{"(if a then if b then c else d) + a", 2, nil},
		{"[if a then if b then c else d] + (a)", 2, nil},
		{"a + [if a then if b then c else d]", 2, nil},
		{"if a then if b then c else d then d", 0, nil},
		{"if if a then if b then c else d then d", 2, nil},
		{"if if a then if b then c else d then if if a then if b then c else d then d", 2, nil}, // as many as four
		{"if a then if b then if c then d else e else f", 2, nil},                               // as many as three
		{"if a then if b then c else d + ", 0, nil},
		{":- a", 0, nil},
	} {
		l := lex.All([]byte(c.text))
		n, one := derive.Count(e, l)
		if n != c.many || !slices.Equal(one, c.tree) {
			t.Errorf("Count of %q = %d, %+v", c.text, n, one)
		}
		holds(t, e, l, len(all(e, l, 0, len(l))))
		holds(t, e, l, count(e, l))
	}
}

// P19.1: the same tokens, by operators that are declared in several ways.
func TestDeclared(t *testing.T) {
	for _, c := range []struct {
		text  string
		many  int
		opers []api.Oper
	}{
		{"a + b + c", 1, []api.Oper{op("_+_", 3, 1)}}, // the chapter's
		{"a + b + c", 0, []api.Oper{op("_+_", 3, 0)}}, // the chapter's
		{"a + b + c", 1, []api.Oper{op("_+_", 3, 2)}},
		{"a + b + c", 0, nil},
		{"a + b - c", 1, []api.Oper{op("_+_", 3, 1), op("_-_", 3, 1)}},
		{"a + b - c", 0, []api.Oper{op("_+_", 3, 1), op("_-_", 3, 2)}},
		{"a + b - c", 0, []api.Oper{op("_+_", 3, 1), op("_-_", 3, 0)}},
		{"a + b - c", 1, []api.Oper{op("_+_", 3, 0), op("_-_", 2, 0)}},
		{"a + b - c", 0, []api.Oper{op("_+_", 6, 0), op("_-_", 7, 0)}},
		{"a - b", 1, []api.Oper{op("_-_", 3, 0), op("-_", 3, 2)}},
		{"a - - b", 0, []api.Oper{op("_-_", 3, 0), op("-_", 3, 2)}},
		{"a - - b", 1, []api.Oper{op("_-_", 3, 0), op("-_", 2, 2)}},
		{"- a - b", 0, []api.Oper{op("_-_", 3, 1), op("-_", 3, 2)}},
		{"- a - b", 1, []api.Oper{op("_-_", 3, 1), op("-_", 2, 2)}},
		{"- a - b", 1, []api.Oper{op("_-_", 2, 1), op("-_", 3, 2)}},
		{"- a - b", 1, []api.Oper{op("_-_", 3, 2), op("-_", 3, 2)}},
		{"a + b", 1, []api.Oper{op("_+_", 3, 0), op("_+", 3, 0)}},
		{"a + + b", 1, []api.Oper{op("_+_", 3, 0), op("_+", 2, 0)}}, // either one might be the first, but for the groups
		{"a + + b", 2, []api.Oper{op("_+_", 3, 0), op("_+", 2, 0), op("+_", 2, 0)}},
		{"a + + b", 1, []api.Oper{op("_+_", 3, 0), op("_+", 3, 0), op("+_", 2, 0)}},
		{"a + + b", 0, []api.Oper{op("_+_", 3, 0), op("_+", 3, 0), op("+_", 3, 0)}},
		{"+ a +", 0, []api.Oper{op("_+", 3, 0), op("+_", 3, 0)}},
		{"+ a +", 1, []api.Oper{op("_+", 3, 0), op("+_", 2, 0)}},
		{"+ a +", 2, []api.Oper{op("_+", 3, 0), op("+_", 2, 0), op("+_+", 9, 0)}},
		{"+ a +", 1, []api.Oper{op("+_+", 9, 0)}},
		{"+ a + b +", 2, []api.Oper{op("+_+_+", 9, 0), op("+_+", 8, 0), op("_+_", 1, 0)}},
		{"a + b + c", 2, []api.Oper{op("_+_", 3, 1), op("_+_+_", 3, 0)}},
		{"a + b + c", 1, []api.Oper{op("_+_", 3, 0), op("_+_+_", 3, 0)}},
		{"a + b + c + d", 1, []api.Oper{op("_+_", 3, 0), op("_+_+_", 3, 0)}}, // as what is not at an end takes everything
		{"a + b + c + d", 2, []api.Oper{op("_+_", 2, 0), op("_+_+_", 3, 0)}}, // the one at any of its three holes
		{"a + b + c + d", 2, []api.Oper{op("_+_", 3, 0), op("_+_+_", 3, 0), op("_+_+_+_", 1, 0)}},
		{"a + b + c + d", 1, []api.Oper{op("_+_", 3, 1), op("_+_+_+_+_", 4, 0)}}, // which has one part more than there are
		{"a + [ b + c + d ]", 1, []api.Oper{op("_+_", 3, 1), op("[_]", 9, 0)}},
		{"[ b + c ] + [ d ] ", 1, []api.Oper{op("_+_", 3, 0), op("[_]", 9, 0)}},
		{"| a |", 1, []api.Oper{op("|_|", 9, 0)}},
		{"| | a | |", 1, []api.Oper{op("|_|", 9, 0)}},
		{"| a | | b |", 0, []api.Oper{op("|_|", 9, 0)}},
		{"| a | + | b |", 1, []api.Oper{op("|_|", 9, 0), op("_+_", 1, 0)}}, // at the left and the right end it takes nothing
		{"| a | + | b | + | c |", 1, []api.Oper{op("|_|", 9, 0), op("_+_", 1, 1)}},
		{"if a then if b then c else d", 2, []api.Oper{op("if_then_", 5, 2), op("if_then_else_", 5, 2)}}, // the chapter's
		{"if a then if b then c else d", 2, []api.Oper{op("if_then_", 5, 2), op("if_then_else_", 4, 2)}},
		{"if a then if b then c else d", 1, []api.Oper{op("if_then_", 5, 0), op("if_then_else_", 5, 0)}}, // the first one has the else, as the second one is not at its end
		{"if a then if b then c else d", 1, []api.Oper{op("if_then_", 4, 2), op("if_then_else_", 5, 2)}},
		{"if a then b", 0, []api.Oper{op("if_then_else_", 5, 2)}},
		{"a", 1, []api.Oper{op("_+_", 3, 1)}},
		{"a", 0, []api.Oper{op("_a_", 3, 1)}},
		{"a b", 1, []api.Oper{op("_b", 3, 1)}},
		{"b a", 1, []api.Oper{op("b_", 3, 2)}},
		{"b a", 0, []api.Oper{op("b_", 3, 2), op("_a_", 3, 2)}}, // what is a part of an operator that is not used does not stand alone
		{"a ) b", 0, []api.Oper{op("_b", 3, 1)}},
	} {
		e, l := of(t, c.opers...), lex.All([]byte(c.text))
		if n, _ := derive.Count(e, l); n != c.many {
			t.Errorf("Count of %q by %+v = %d, not %d", c.text, c.opers, n, c.many)
		}
		holds(t, e, l, len(all(e, l, 0, len(l))))
	}
}

// P19.1: what a token is, is its kind and what it says; where it stands, and why it is bad, is not asked.
func TestTokens(t *testing.T) {
	e := of(t, op("_+_", 3, 1), op("[_]", 3, 0))
	texts := []string{"(", ")", "+", "[", "]", "a", "X", ""}
	var some []api.Token
	for kind := -1; kind <= 10; kind++ {
		for _, text := range texts {
			some = append(some, api.Token{Kind: kind, Text: text})
		}
	}
	frame := func(text string, at int, with api.Token) {
		l := lex.All([]byte(text))
		l[at] = with
		holds(t, e, l, len(all(e, l, 0, len(l))))
	}
	n := 0
	for _, k := range some {
		for _, text := range []string{"a", "(a)", "[a]", "a + b", "((a))", "a + (b)", "[(a)]"} {
			for at := range lex.All([]byte(text)) {
				frame(text, at, k)
				n++
			}
		}
	}
	for seed := range uint64(300) {
		c := rand.New(rand.NewPCG(seed, 191))
		l := few(c, e, 4)
		want, tree := derive.Count(e, l)
		for i := range l {
			l[i].From, l[i].To, l[i].Code = c.IntN(99)-9, c.IntN(99)-9, api.Errno(c.IntN(40))
		}
		if got, same := derive.Count(e, l); got != want || !slices.Equal(tree, same) {
			t.Errorf("%s: %d, %d", words(l), got, want)
		}
	}
}

// P19.1: all rows of up to six tokens of few words, by small envs that are declared in several ways.
func TestAll(t *testing.T) {
	envs := []struct {
		words string
		opers []api.Oper
	}{
		{"a + *", []api.Oper{op("_+_", 3, 1), op("_*_", 2, 2)}},
		{"a + *", []api.Oper{op("_+_", 3, 1), op("_*_", 3, 1)}},
		{"a + *", []api.Oper{op("_+_", 3, 2), op("*_", 3, 2)}},
		{"a + *", []api.Oper{op("_+", 3, 1), op("*_", 3, 2), op("_+_", 3, 1)}},
		{"a + -", []api.Oper{op("_-", 2, 0), op("-_", 3, 0), op("_-_", 3, 1)}},
		{"a +", []api.Oper{op("_+", 2, 1), op("+_", 3, 2), op("_+_", 4, 0), op("+_+", 9, 0)}},
		{"a +", []api.Oper{op("_+_", 2, 0), op("_+_+_", 3, 0)}},
		{"a + ( )", []api.Oper{op("_+_", 3, 1)}},
		{"a [ ] !", []api.Oper{op("_[_]", 1, 1), op("[_]", 1, 0), op("_!", 2, 1)}},
		{"X if then else", []api.Oper{op("if_then_", 5, 2), op("if_then_else_", 5, 2)}},
	}
	seen := [3]int{}
	for _, c := range envs {
		e, some := of(t, c.opers...), lex.All([]byte(c.words))
		most := 6
		if len(some) == 2 {
			most = 9
		}
		var rows func(l []api.Token)
		rows = func(l []api.Token) {
			seen[holds(t, e, l, count(e, l))]++
			if len(l) < 6 {
				holds(t, e, l, len(all(e, l, 0, len(l))))
			}
			for i := 0; i < len(some) && len(l) < most; i++ {
				rows(append(slices.Clip(l), some[i]))
			}
		}
		rows(nil)
	}
	if slices.Min(seen[:]) < 100 {
		t.Errorf("of how many there are none, one and two: %d", seen)
	}
}

// P19.1: envs and tokens of all kinds, up to as many as there may be.
func TestRandom(t *testing.T) {
	seen := [3]int{}
	for seed := range uint64(2000) {
		c := rand.New(rand.NewPCG(seed, 192))
		e := anyEnv(t, c, [][]string{patterns, alike}[seed%2], 1+c.IntN(api.MaxOpers))
		l := few(c, e, 1+c.IntN(5))
		many := count(e, l)
		seen[holds(t, e, l, many)]++
		if len(l) < 8 {
			holds(t, e, l, len(all(e, l, 0, len(l))))
		}
		if len(l) > 1 { // and with one token taken away, said twice, or in another place
			i, k := c.IntN(len(l)), c.IntN(len(l))
			for _, m := range [][]api.Token{slices.Delete(slices.Clone(l), i, i+1), slices.Insert(slices.Clone(l), k, l[i])[:min(len(l), 31)]} {
				holds(t, e, m, count(e, m))
			}
			m := slices.Clone(l)
			m[i], m[k] = m[k], m[i]
			holds(t, e, m, count(e, m))
		}
	}
	if slices.Min(seen[:]) < 60 {
		t.Errorf("of how many there are none, one and two: %d", seen)
	}
}

// P19.1: rows that do not come from graph.Start, so that of two operators each may fit the other, or none itself.
func TestRows(t *testing.T) {
	seen := [3]int{}
	for seed := range uint64(3000) {
		c := rand.New(rand.NewPCG(seed, 193))
		e := anyEnv(t, c, [][]string{patterns, alike}[seed%2], 8)
		for g := range e.Rows {
			e.Rows[g] = c.IntN(1 << 10)
			if c.IntN(9) == 0 {
				e.Rows[g] = int(c.Uint64())
			}
		}
		l := few(c, e, 1+c.IntN(4))
		seen[holds(t, e, l, count(e, l))]++
	}
	if slices.Min(seen[:]) < 100 {
		t.Errorf("of how many there are none, one and two: %d", seen)
	}
}

// P19.2: where no part is there twice, there is never more than one.
func TestUnique(t *testing.T) {
	apart := []string{"_+_", "_*_", "_?_:_", "-_", "if_then_else_", "_!", "_{_}", "[_]", "|_#", "_a_b_c_d_", "_$", "~_", "_&_", "let_in_", "_@_", "_of_"}
	seen := [3]int{}
	for seed := range uint64(4000) {
		c := rand.New(rand.NewPCG(seed, 194))
		e := anyEnv(t, c, apart, 1+c.IntN(api.MaxOpers))
		if !env.Unique(e) {
			t.Fatalf("%+v", e.Opers)
		}
		l := few(c, e, 1+c.IntN(5))
		n := holds(t, e, l, count(e, l))
		seen[n]++
		if n > 1 {
			t.Errorf("%+v, %s: %d", e, words(l), n)
		}
	}
	if seen[1] < 2000 || seen[0] < 500 {
		t.Errorf("of how many there are none and one: %d", seen)
	}
}

// P19.2: all rows of up to five tokens of three operators whose parts are unlike, whatever their groups and associativities.
func TestUniqueAll(t *testing.T) {
	some := lex.All([]byte("a + - !"))
	for groups := range 3 * 3 {
		for assoc := range 3 * 2 * 2 {
			e := of(t, op("_+_", 2, assoc%3), op("-_", 1+groups%3, assoc/3%2*2), op("_!", 1+groups/3, assoc/6))
			var rows func(l []api.Token)
			rows = func(l []api.Token) {
				if n, _ := derive.Count(e, l); n > 1 {
					t.Errorf("%+v, %s", e, words(l))
				}
				for i := 0; i < len(some) && len(l) < 5; i++ {
					rows(append(slices.Clip(l), some[i]))
				}
			}
			rows(nil)
		}
	}
}

// absent tells whether an operator has a part that is none of the tokens, and unseen whether it has none that is.
func absent(o api.Oper, l []api.Token) (absent, unseen bool) {
	s, _ := shape.Of(o.Pattern)
	unseen = true
	for _, name := range s.Parts {
		there := slices.ContainsFunc(l, func(t api.Token) bool { return fits.Part(t, name) })
		absent, unseen = absent || !there, unseen && !there
	}
	return absent, unseen
}

// P19.2: operators of which a part is not there may be declared as they like; and if no part is, they may be gone.
func TestAbsent(t *testing.T) {
	changed, gone, kept := 0, 0, 0
	for seed := range uint64(4000) {
		c := rand.New(rand.NewPCG(seed, 195))
		e := anyEnv(t, c, patterns, 8)
		l := few(c, e, 1+c.IntN(3))
		want, one := derive.Count(e, l)
		for _, o := range e.Opers {
			absent, unseen := absent(o, l)
			less, _ := env.Drop(e, o.Pattern)
			more, _ := env.Add(e, anyOper(c, o.Pattern))
			if n, same := derive.Count(more, l); absent && (n != want || !slices.Equal(one, same)) {
				t.Errorf("%+v, %s: %d, but %d as %+v", e, words(l), want, n, more)
			}
			if n, same := derive.Count(less, l); unseen && (n != want || !slices.Equal(one, same)) {
				t.Errorf("%+v, %s: %d, but %d without %s", e, words(l), want, n, o.Pattern)
			} else if !unseen && n != want {
				kept++
			}
			if absent {
				changed++
			}
			if unseen {
				gone++
			}
		}
	}
	if changed < 1000 || gone < 1000 || kept < 1000 {
		t.Errorf("%d, %d, %d", changed, gone, kept)
	}
}

// P19.1, R1: as many tokens as there may be, and as many operators, which have the same part at each place.
func TestGreat(t *testing.T) {
	var same []string // all that is made of one part, but the greatest
	for n := 1; n <= api.MaxParts; n++ {
		for _, ends := range [][2]string{{"", ""}, {"_", ""}, {"", "_"}, {"_", "_"}} {
			if p := ends[0] + strings.Repeat("+_", n-1) + "+" + ends[1]; strings.Contains(p, "_") {
				same = append(same, p)
			}
		}
	}
	some := []api.Oper{op("_*_", 5, 1)}
	for i, p := range same {
		some = append(some, op(p, 1+i%5, 0))
	}
	e := of(t, some...)
	if len(e.Opers) != api.MaxOpers {
		t.Fatal(len(e.Opers))
	}
	texts := []string{strings.Repeat("+", 32), strings.Repeat("+", 31) + "a", "a" + strings.Repeat("+", 31), strings.Repeat("+a", 16), strings.Repeat("a+", 15) + "a", strings.Repeat("+", 16) + "a" + strings.Repeat("+", 15), strings.Repeat("a*", 15) + "a", strings.Repeat("a*", 16), strings.Repeat("+a*", 10) + "a", strings.Repeat("(", 15) + "a" + strings.Repeat(")", 15), strings.Repeat("(", 14) + "+a*a" + strings.Repeat(")", 14)}
	for assoc := range 3 {
		for rising := range 3 {
			for _, o := range some[1:] {
				o.Group = []int{o.Group, 3, 6 - o.Group}[rising]
				if assoc == 1 && strings.HasPrefix(o.Pattern, "_") || assoc == 2 && strings.HasSuffix(o.Pattern, "_") {
					o.Assoc = assoc
				}
				e, _ = env.Add(e, o)
			}
			for _, text := range texts {
				l := lex.All([]byte(strings.Join(strings.Split(text, ""), " ")))
				holds(t, e, l, count(e, l))
			}
		}
	}
}

// P19.1: trees of 32 tokens, all on one side, and one too deep in brackets.
func TestLong(t *testing.T) {
	for _, c := range []struct {
		text string
		many int
		node api.Node // the deepest one but one
	}{
		{strings.Repeat("a + ", 15) + "a", 1, node(3, "_+_", 0, 3, 2)},
		{strings.Repeat("a ^ ", 15) + "a", 1, node(3, "_^_", 28, 31, 2)},
		{strings.Repeat("- ", 31) + "a", 1, node(3, "-_", 30, 32, 1)},
		{"a" + strings.Repeat(" !", 31), 1, node(3, "_!", 0, 2, 1)},
		{strings.Repeat("(", 15) + "- a" + strings.Repeat(")", 15), 1, node(3, "-_", 15, 17, 1)},
		{strings.Repeat("[", 15) + "- a" + strings.Repeat("]", 15), 1, node(3, "-_", 15, 17, 1)},
		{strings.Repeat("(", 15) + "- a" + strings.Repeat(")", 14) + "]", 0, api.Node{}},
		{strings.Repeat("if a then ", 10) + "b", 1, node(3, "if_then_", 27, 31, 2)},
		{strings.Repeat("if a then ", 9) + "b else b", 2, api.Node{}},
	} {
		e, l := of(t, op("[_]", 9, 0), op("_!", 1, 1), op("_+_", 3, 1), op("_^_", 3, 2), op("if_then_", 5, 2), op("if_then_else_", 5, 2), op("-_", 2, 2)), lex.All([]byte(c.text))
		n, one := derive.Count(e, l)
		if n != c.many || n == 1 && !slices.Contains(one, c.node) {
			t.Errorf("%s: %d, %+v", c.text, n, one)
		}
		holds(t, e, l, count(e, l))
	}
}

// R6, R7: a second call tells the same, whatever became of what was told before and of what was asked between.
func TestAgain(t *testing.T) {
	e, l := sums(t), lex.All([]byte("(a + b) * [c ! !] ^ (d)"))
	_, want := derive.Count(e, l)
	want = slices.Clone(want)
	for range 3 {
		n, one := derive.Count(e, l)
		if n != 1 || !slices.Equal(one, want) || len(one) < 10 {
			t.Errorf("%d, %+v", n, one)
		}
		if n, _ := derive.Count(env.New(), l); n != 0 {
			t.Errorf("%d without operators", n)
		}
		if n, _ := derive.Count(e, l[1:]); n != 0 {
			t.Errorf("%d without the first token", n)
		}
		for i := range one {
			one[i] = node(9, "gone", 9, 9, 9)
		}
		_ = append(one, api.Node{}, api.Node{})
	}
}

// R1: operators that may not be are not asked of; even so nothing panics, and what has no shape derives nothing.
func TestShapeless(t *testing.T) {
	good := sums(t)
	for _, pattern := range []string{"", "_", "__", "x", "_,_", "(_)", "x__y", "_X_", "_" + strings.Repeat("x", 40)} {
		e := api.Env{Opers: append([]api.Oper{op(pattern, 1, 0)}, good.Opers...), Rows: good.Rows}
		for _, text := range []string{"", "a", "a + b", "if a then if b then c else d", "x", "(x)", "a , b", "()", "a + b + c = d"} {
			l := lex.All([]byte(text))
			want, tree := derive.Count(good, l)
			if n, one := derive.Count(e, l); n != want || !slices.Equal(one, tree) {
				t.Errorf("%q with %q: %d, %+v", text, pattern, n, one)
			}
		}
	}
}
