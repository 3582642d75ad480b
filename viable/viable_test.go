package viable_test

import (
	"fmt"
	"math/rand/v2"
	"slices"
	"strings"
	"testing"

	"tmesis/api"
	"tmesis/derive"
	"tmesis/env"
	"tmesis/fits"
	"tmesis/lex"
	"tmesis/viable"
)

// patterns is some that have a shape: with holes at both ends, at the right one, at the left one, and at none; some of them share their parts.
var patterns = []string{"_+_", "_*_", "_?_:_", "-_", "if_then_", "if_then_else_", "_!", "_[_]", "[_]", "|_|", "_a_b_c_d_", "_-_", "_a_a", "_+", "+_", "_+_+_"}

// alike is some that have few parts, so that one row of tokens may come from several of them.
var alike = []string{"_+_", "_+", "+_", "_+_+_", "+_+", "_-_", "-_", "_-", "_+_-_", "if_then_", "if_then_else_", "_[_]", "[_]", "[_+_]"}

// op is an operator.
func op(pattern string, group, assoc int) api.Oper {
	return api.Oper{Pattern: pattern, Group: group, Assoc: assoc}
}

// of is an env of the ladder with these operators, each of which has to be one that may be.
func of(t *testing.T, l ...api.Oper) api.Env {
	t.Helper()
	e := env.New()
	for _, o := range l {
		var code api.Errno
		if e, code = env.Add(e, o); code != api.OK {
			t.Fatalf("%+v: %d", o, code)
		}
	}
	return e
}

// solo tells whether a token is this bracket.
func solo(t api.Token, text string) bool { return t.Kind == api.TkSolo && t.Text == text }

// words is what tokens say.
func words(l []api.Token) string {
	var s []string
	for _, t := range l {
		s = append(s, fmt.Sprint(t.Kind, ":", t.Text))
	}
	return strings.Join(s, " ")
}

// anyOper is an operator of that pattern, and of any group and associativity that it may have; most are of few groups.
func anyOper(c *rand.Rand, pattern string) api.Oper {
	o := op(pattern, 1+c.IntN(3), c.IntN(3))
	if c.IntN(4) == 0 {
		o.Group = 1 + c.IntN(9)
	}
	if o.Assoc == api.AsLeft && !strings.HasPrefix(pattern, "_") || o.Assoc == api.AsRight && !strings.HasSuffix(pattern, "_") {
		o.Assoc = api.AsNon
	}
	return o
}

// anyEnv is some of these patterns; which groups are tighter comes from where graph.Start begins.
func anyEnv(t *testing.T, c *rand.Rand, patterns []string, most int) api.Env {
	t.Helper()
	var l []api.Oper
	for range c.IntN(most + 1) {
		l = append(l, anyOper(c, patterns[c.IntN(len(patterns))]))
	}
	e := of(t, l...)
	for range c.IntN(4) {
		if f, code := env.Edge(e, 1+c.IntN(9), 1+c.IntN(9)); code == api.OK {
			e = f
		}
	}
	return e
}

// anyRows is rows that need not come from graph.Start.
func anyRows(c *rand.Rand) api.Rows {
	var r api.Rows
	for g := range r {
		r[g] = c.IntN(1<<10) & c.IntN(1<<10)
		if c.IntN(9) == 0 {
			r[g] = int(c.Uint64())
		}
	}
	return r
}

// grown is tokens of a tree, but for how its operators fit: of few operators, or none, as deep as is said.
func grown(c *rand.Rand, e api.Env, deep int) []api.Token {
	most := 8
	if deep <= 0 {
		most = 2
	}
	pick := c.IntN(most)
	if pick > 2 && len(e.Opers) > 0 {
		var l []api.Token
		for i, name := range strings.Split(e.Opers[c.IntN(len(e.Opers))].Pattern, "_") {
			if i > 0 {
				l = append(l, grown(c, e, deep-1)...)
			}
			l = append(l, lex.All([]byte(name))...)
		}
		return l
	}
	if pick == 2 {
		return slices.Concat(lex.All([]byte("(")), grown(c, e, deep-1), lex.All([]byte(")")))
	}
	return lex.All([]byte([]string{"p", "X", "7", "'+'", "&"}[c.IntN(5)]))
}

// few is grown of as many tokens as Longest is asked of, at most: the longest of some, as most are short.
func few(c *rand.Rand, e api.Env, deep int) []api.Token {
	var few []api.Token
	for tries := c.IntN(5); tries >= 0 || few == nil; tries-- {
		if l := grown(c, e, deep); len(l) > len(few) && len(l) <= api.MaxTokens {
			few = l
		}
	}
	return few
}

// bent is l with one token of it taken away, said twice, in another's place, or another one.
func bent(c *rand.Rand, e api.Env, l []api.Token) []api.Token {
	m, i, k := slices.Clone(l), c.IntN(len(l)), c.IntN(len(l))
	switch c.IntN(4) {
	case 0:
		return slices.Delete(m, i, i+1)
	case 1:
		return slices.Insert(m, k, l[i])[:min(len(l)+1, api.MaxTokens)]
	case 2:
		m[i], m[k] = m[k], m[i]
	default:
		m[i] = grown(c, e, 2)[0]
	}
	return m
}

// table tells of the tokens from here to there, the few ahead of the many, by what stands at the top (the operators of e, and behind them what is none), whether there is a tree; and of those from here to the end of a beginning, whether they begin one. No item goes from left to right: what begins is looked for over and over, till nothing new is found.
type table struct {
	e     api.Env
	l     []api.Token
	parts [][]string
	fit   [2][][]bool
	whole [][][]bool
	open  [][]bool
}

// made is the table of whole trees.
func made(e api.Env, l []api.Token) *table {
	c := &table{e: e, l: l, whole: make([][][]bool, len(l)+1)}
	for i, o := range e.Opers {
		c.parts = append(c.parts, strings.Split(o.Pattern, "_"))
		for side := range 2 {
			c.fit[side] = append(c.fit[side], nil)
			for _, k := range e.Opers {
				c.fit[side][i] = append(c.fit[side][i], fits.Fits(e.Rows, o, k, side == 1))
			}
		}
	}
	for from := range c.whole {
		c.whole[from] = make([][]bool, len(l)+1)
	}
	for wide := 1; wide <= len(l); wide++ {
		for from := 0; from+wide <= len(l); from++ {
			c.whole[from][from+wide] = c.tops(from, from+wide)
		}
	}
	return c
}

// anyOf tells whether one of these is so, of the operators that fit; nil lets all.
func anyOf(so []bool, fit []bool) bool {
	for i, s := range so {
		if s && (fit == nil || i >= len(fit) || fit[i]) {
			return true
		}
	}
	return false
}

// tops tells what stands at the top of trees of these tokens, when those of fewer tokens are known.
func (c *table) tops(from, to int) []bool {
	out := make([]bool, len(c.parts)+1)
	for i := range c.parts {
		out[i], _ = c.oper(i, from, to, false)
	}
	alone := to == from+1 && fits.Leaf(c.e, c.l[from])
	out[len(c.parts)] = alone || to > from+2 && solo(c.l[from], "(") && solo(c.l[to-1], ")") && anyOf(c.whole[from+1][to-1], nil)
	return out
}

// oper tells whether the operator i derives these tokens, and, if that is asked, whether they begin what it derives: at[p] is whether what has come of it so far derives the tokens from from to ahead of p.
func (c *table) oper(i, from, to int, begun bool) (derives, begins bool) {
	at := make([]bool, to+1)
	at[from] = true
	for n, name := range c.parts[i] {
		if n > 0 {
			var fit []bool
			if n == 1 && c.parts[i][0] == "" {
				fit = c.fit[0][i]
			} else if n == len(c.parts[i])-1 && name == "" {
				fit = c.fit[1][i]
			}
			next := make([]bool, to+1)
			for p := from; p <= to; p++ {
				begins = begins || begun && at[p] && (p == to || anyOf(c.open[p], fit))
				for q := p + 1; at[p] && q <= to; q++ {
					next[q] = next[q] || anyOf(c.whole[p][q], fit)
				}
			}
			at = next
		}
		if name != "" {
			begins = begins || begun && at[to]
			next := make([]bool, to+1)
			for p := from; p < to; p++ {
				next[p+1] = at[p] && fits.Part(c.l[p], name)
			}
			at = next
		}
	}
	return at[to], begins || at[to]
}

// begins tells whether the first n tokens begin something.
func (c *table) begins(n int) bool {
	if n == 0 {
		return true
	}
	c.open = make([][]bool, n+1)
	for from := n - 1; from >= 0; from-- {
		c.open[from] = make([]bool, len(c.parts)+1)
		alone := n == from+1 && fits.Leaf(c.e, c.l[from])
		within := solo(c.l[from], "(") && (n == from+1 || anyOf(c.open[from+1], nil))
		c.open[from][len(c.parts)] = alone || within || c.whole[from][n][len(c.parts)]
		for more := true; more; {
			more = false
			for i := range c.parts {
				if _, begins := c.oper(i, from, n, true); begins && !c.open[from][i] {
					c.open[from][i], more = true, true
				}
			}
		}
	}
	return anyOf(c.open[0], nil)
}

// longest is what Longest has to tell, by the table. Each beginning is asked, also those of what does not go on.
func longest(e api.Env, l []api.Token) int {
	c, most := made(e, l), 0
	for n := range len(l) + 1 {
		if c.begins(n) {
			most = n
		}
	}
	return most
}

// holds holds Longest against what it has to tell, of l and of each beginning of it (P20.3), and against derive.Count, and sees that nothing that is handed in is changed.
func holds(t *testing.T, e api.Env, l []api.Token, want int) int {
	t.Helper()
	opers, tokens := slices.Clone(e.Opers), slices.Clone(l)
	n := viable.Longest(e, l)
	if n != want {
		t.Errorf("Longest(%+v, %.900s) = %d, not %d", e, words(l), n, want)
	}
	for k := range len(l) + 1 {
		if m := viable.Longest(e, l[:k]); m != min(k, n) {
			t.Errorf("Longest(%+v, %.900s) = %d, but of the first %d it is %d", e, words(l), n, k, m)
		}
	}
	if many, _ := derive.Count(e, l); many > 0 && n != len(l) {
		t.Errorf("Longest(%+v, %.900s) = %d, though it has a tree", e, words(l), n)
	}
	if !slices.Equal(e.Opers, opers) || !slices.Equal(l, tokens) {
		t.Errorf("%+v, %.900s has become %+v, %.900s", opers, words(tokens), e, words(l))
	}
	return n
}

// sums is an env of the operators that the table of texts is about.
func sums(t *testing.T) api.Env {
	return of(t, op("[_]", 9, 0), op("_!", 1, 1), op("_*_", 2, 1), op("_+_", 3, 1), op("_^_", 1, 2), op("if_then_", 5, 2), op("if_then_else_", 5, 2), op("-_", 2, 2), op("_=_", 4, 0), op("_?_:_", 5, 2), op("_is_", 7, 0), op("_;_", 6, 1), op("_<>_", 6, 2), op("not_", 3, 0), op("_//", 3, 0), op("let_in_end", 8, 0))
}

// P20.2: texts, and how many tokens of them go on.
func TestTable(t *testing.T) {
	e := sums(t)
	for _, c := range []struct {
		text string
		want int
	}{
		{"", 0},
		{"a", 1},
		{"X", 1},
		{"007", 1},
		{"'+'", 1},
		{"''", 1},
		{"&", 1},
		{"a b", 1}, // the chapter's
		{"a X", 1},
		{"a 'b'", 1},
		{"a (b)", 1},
		{"a [b]", 1},
		{"a let", 1},
		{"a not", 1},
		{"+", 0}, // a part does not stand alone, and begins nothing, but that of an operator without a hole ahead of it
		{"+ a", 0},
		{"then", 0},
		{"]", 0},
		{"[", 1},
		{"[ ]", 1},
		{"[a", 2},
		{"[a]", 3},
		{"[a] ]", 3},
		{"[a] b", 3},
		{"[a] + b", 5},
		{"[a )", 2},
		{"[a = b is c", 4},
		{"[a = b is", 4},
		{"[(a = b) is c", 8},
		{"( ", 1},
		{"( )", 1},
		{") (", 0},
		{"(a", 2},
		{"(a]", 2},
		{"(a)", 3},
		{"(a))", 3},
		{"(a)(b)", 3},
		{"((a)", 4},
		{"(((", 3},
		{"([(a] ", 4},
		{"([(a)]", 6},
		{"|", 0},
		{",", 0},
		{"a , b", 1},
		{":- a", 1}, // as a symbol that is no part
		{"a .", 1},
		{"a. b.", 1},
		{". a", 0},
		{"\x01 a", 0},
		{"a \x01", 1},
		{"'a", 0},
		{"a + ) b", 2}, // the chapter's
		{"a + + b", 2},
		{"a +", 2},
		{"a + b +", 4},
		{"a + b + c", 5},
		{"a + b c", 3},
		{"a !", 2},
		{"a ! !", 3},
		{"! a", 0},
		{"a + !", 2},
		{"a + b ! * c !", 7},
		{"- a", 2},
		{"- - a", 3},
		{"- + a", 1},
		{"a -", 1},
		{"- a + b", 4},
		{"- a ^ b ^ c", 6},
		{"a ^ - b", 2}, // group 2 is not tighter than 1
		{"a + - b", 4},
		{"a * - b", 2}, // of one group, but it does not lean right
		{"not a", 2},
		{"not not", 1},
		{"not - a", 3},
		{"not [ not a ]", 5},
		{"not ( not", 3},
		{"not if", 1}, // 5 is not tighter than 3
		{"a + if", 2},
		{"a + let if a then b in", 8}, // what has no hole at its ends fits, and between its parts all does
		{"not a + b", 2},              // of one group
		{"- not", 1},
		{"a = b = c", 3},
		{"a = b + c = d", 5},
		{"a = (b = c", 6},
		{"a + b = c + d", 7},
		{"a // //", 2},
		{"a // + b", 2},
		{"a // = b", 4},
		{"a + b //", 3}, // neither of them fits the other
		{"a * b //", 4},
		{"a ; b ; c", 5},
		{"a <> b <> c", 5},
		{"a ; b <> c", 3}, // of one group, but not both of one side
		{"a <> b ; c", 3},
		{"a is b", 3},
		{"a is b + c", 3}, // nothing is tighter than 7
		{"a is (b + c)", 7},
		{"a + b is c", 3},
		{"a is is", 2},
		{"if", 1},
		{"if a", 2}, // the chapter's
		{"if then", 1},
		{"if a b", 2},
		{"if a else", 2},
		{"if a then", 3},
		{"if a then else", 3},
		{"if a then b", 4},
		{"if a then b c", 4},
		{"if a then b else", 5},
		{"if a then b else c else", 6},
		{"if a then if b then c else d else", 10},
		{"if a then if b then c else d else e else", 11},
		{"if if if", 3},
		{"if if a then b then c", 7},
		{"if a = b is c", 4},
		{"if a is b then - d = e + f", 11},
		{"if a then b is c", 6}, // as an else may come
		{"if a then b else c is d", 6},
		{"a ? b : c", 5},
		{"a ? b ? c :", 6},
		{"a ? b is c : d", 7},
		{"a ? b : c is d", 5},
		{"a ? b : c ? d : e", 9},
		{"a ? : c", 2},
		{"a : b", 1},
		{"a ? b : c : d", 5},
		{"let a in b end", 5},
		{"let a in b end end", 5},
		{"let a in end", 3},
		{"let a is b in if c then d end", 10},
		{"a then", 1},
		{"a + then", 2},
		{"'if' then", 1},
		{"'let' + 'in' +", 4},
		{"a + b + c + d + e + f + g + h + i + j + k + l + m + n + o +", 30},
	} {
		l := lex.All([]byte(c.text))
		if n := viable.Longest(e, l); n != c.want {
			t.Errorf("Longest of %q = %d, not %d", c.text, n, c.want)
		}
		holds(t, e, l, longest(e, l))
	}
}

// goal is what an operator has from a place of its pattern on, of so many tokens.
type goal struct{ oper, at, wide int }

// rows makes all rows of so many tokens that have a tree, from the operators down; each token is a byte, which says which one of some it is.
type rows struct {
	e     api.Env
	some  []api.Token
	known map[goal][]string
}

// of is the rows of so many tokens that a hole takes in which these operators may stand; nil lets all.
func (c rows) of(may func(k api.Oper) bool, wide int) []string {
	var out []string
	for i, t := range c.some {
		if wide == 1 && fits.Leaf(c.e, t) {
			out = append(out, string(byte('0'+i)))
		}
	}
	if open, shut := c.word("("), c.word(")"); wide > 2 && open != "" {
		for _, kid := range c.of(nil, wide-2) {
			out = append(out, open+kid+shut)
		}
	}
	for i, o := range c.e.Opers {
		if may == nil || may(o) {
			out = append(out, c.rest(goal{i, 0, wide})...)
		}
	}
	slices.Sort(out)
	return slices.Compact(out)
}

// word is the byte of a token of some, if it is one.
func (c rows) word(text string) string {
	for i, t := range c.some {
		if t.Text == text {
			return string(byte('0' + i))
		}
	}
	return ""
}

// rest is the rows of what is left of an operator.
func (c rows) rest(g goal) []string {
	if out, ok := c.known[g]; ok || g.wide < 0 {
		return out
	}
	var out []string
	o := c.e.Opers[g.oper]
	left := o.Pattern[g.at:]
	name, _, _ := strings.Cut(left, "_")
	switch {
	case left == "" && g.wide == 0:
		out = []string{""}
	case left != "" && name != "":
		for _, rest := range c.rest(goal{g.oper, g.at + len(name), g.wide - 1}) {
			out = append(out, c.word(name)+rest)
		}
	case left != "":
		var may func(k api.Oper) bool
		if right := left == "_"; right || g.at == 0 {
			may = func(k api.Oper) bool { return fits.Fits(c.e.Rows, o, k, right) }
		}
		for wide := 1; wide <= g.wide; wide++ {
			for _, rest := range c.rest(goal{g.oper, g.at + 1, g.wide - wide}) {
				for _, kid := range c.of(may, wide) {
					out = append(out, kid+rest)
				}
			}
		}
	}
	slices.Sort(out)
	out = slices.Compact(out)
	c.known[g] = out
	return out
}

// P20.1, P20.2: all rows of few tokens of few words, by small envs, go on just if some row that begins so has a tree. A variable is one of the words, as it may stand alone whatever is declared.
func TestAll(t *testing.T) {
	ladder, wild := env.New().Rows, api.Rows{}
	wild[1], wild[2], wild[3] = 1<<2, 1<<3, 1<<1 // by which what is tighter than what is tighter is not
	for _, c := range []struct {
		words     string
		few, most int
		rows      api.Rows
		opers     []api.Oper
	}{
		{"X", 3, 5, ladder, nil},
		{"X ( )", 4, 9, ladder, nil},
		{"X + *", 5, 7, ladder, []api.Oper{op("_+_", 3, 1), op("_*_", 2, 2)}},
		{"X + *", 5, 7, ladder, []api.Oper{op("_+_", 3, 0), op("_*_", 3, 1)}},
		{"X + *", 5, 7, ladder, []api.Oper{op("_+_", 3, 2), op("*_", 3, 2)}},
		{"X + *", 5, 7, ladder, []api.Oper{op("_+", 3, 1), op("*_", 3, 2)}},
		{"X + *", 5, 7, ladder, []api.Oper{op("_+", 3, 1), op("*_", 2, 0)}},
		{"X + *", 4, 9, ladder, []api.Oper{op("+_*", 3, 0), op("_+_", 6, 0)}},
		{"X +", 6, 10, ladder, []api.Oper{op("_+", 2, 1), op("+_", 3, 2), op("_+_", 4, 0)}},
		{"X +", 4, 12, ladder, []api.Oper{op("_+_+_", 3, 0)}},
		{"X +", 4, 17, ladder, []api.Oper{op("+_+_+", 3, 0)}},
		{"X + ( )", 4, 9, ladder, []api.Oper{op("_+_", 3, 0)}},
		{"X [ ] !", 4, 9, ladder, []api.Oper{op("_[_]", 1, 1), op("[_]", 1, 0), op("_!", 2, 0)}},
		{"X if then", 3, 10, ladder, []api.Oper{op("if_then_", 5, 2)}},
		{"X if then", 3, 10, ladder, []api.Oper{op("if_then_", 5, 0)}},
		{"X if then else", 3, 16, ladder, []api.Oper{op("if_then_else_", 5, 0)}},
		{"X + - *", 4, 17, wild, []api.Oper{op("+_", 1, 0), op("_-_", 2, 0), op("_*_", 3, 0)}},
		{"X + - *", 4, 16, wild, []api.Oper{op("+_", 3, 0), op("_-_", 1, 0), op("_*", 2, 0)}},
		{"X + -", 5, 12, wild, []api.Oper{op("_+_", 1, 0), op("_-_", 2, 0), op("_+", 3, 0)}},
	} {
		e := of(t, c.opers...)
		e.Rows = c.rows
		tried(t, e, c.words, c.few, c.most)
	}
}

// tried holds Longest of all rows of few of these words against which of them some row of so many at most begins with.
func tried(t *testing.T, e api.Env, words string, few, most int) {
	t.Helper()
	some, on := lex.All([]byte(words)), map[string]bool{"": true}
	made := rows{e, some, map[goal][]string{}}
	for wide := range most + 1 {
		for _, row := range made.of(nil, wide) {
			for n := range min(few, wide) + 1 {
				on[row[:n]] = true
			}
		}
	}
	var all func(row string, l []api.Token, longest int)
	all = func(row string, l []api.Token, longest int) {
		if on[row] {
			longest = len(l)
		}
		holds(t, e, l, longest)
		for i := 0; i < len(some) && len(l) < few; i++ {
			all(row+string(byte('0'+i)), append(slices.Clip(l), some[i]), longest)
		}
	}
	all("", nil, 0)
}

// P20.1, P20.2: the same, by twos and threes of operators of all kinds.
func TestAllKinds(t *testing.T) {
	for seed := range uint64(300) {
		c := rand.New(rand.NewPCG(seed, 201))
		e := anyEnv(t, c, []string{"_+_", "+_", "_+", "+_+", "_-_", "-_", "_-", "+_-", "_+_-", "-_+_"}, 3)
		tried(t, e, "X + -", 3, 10)
	}
}

// P20.1, P20.2: envs and tokens of all kinds, up to as many as there may be.
func TestRandom(t *testing.T) {
	whole, short, none := 0, 0, 0
	for seed := range uint64(500) {
		c := rand.New(rand.NewPCG(seed, 202))
		e := anyEnv(t, c, [][]string{patterns, alike}[seed%2], 1+c.IntN(api.MaxOpers))
		l := few(c, e, 1+c.IntN(5))
		for range 3 {
			switch holds(t, e, l, longest(e, l)) {
			case len(l):
				whole++
			case 0:
				none++
			default:
				short++
			}
			if len(l) > 0 {
				l = bent(c, e, l)
			}
		}
	}
	if whole < 300 || short < 300 || none < 30 {
		t.Errorf("all go on, some, none: %d, %d, %d", whole, short, none)
	}
}

// P20.1, P20.2: rows that do not come from graph.Start, so that what fits a hole of what fits a hole need not fit that one, and of two operators each may fit the other.
func TestRows(t *testing.T) {
	whole, short := 0, 0
	for seed := range uint64(700) {
		c := rand.New(rand.NewPCG(seed, 203))
		e := anyEnv(t, c, [][]string{patterns, alike}[seed%2], 10)
		e.Rows = anyRows(c)
		l := few(c, e, 1+c.IntN(4))
		for range 2 {
			if n := holds(t, e, l, longest(e, l)); n == len(l) {
				whole++
			} else if n > 0 {
				short++
			}
			if len(l) > 0 {
				l = bent(c, e, l)
			}
		}
	}
	if whole < 200 || short < 200 {
		t.Errorf("all go on, some: %d, %d", whole, short)
	}
}

// P20.1: an operator may go on within one that may stand where it may not, and of which no token has come yet.
func TestThrough(t *testing.T) {
	e := of(t, op("-_", 1, 0), op("_+_", 2, 0), op("*_", 3, 0))
	for _, c := range []struct {
		rows api.Rows
		want int
	}{
		{api.Rows{1: 1 << 2, 2: 1 << 3}, 3},            // * in the left hole of +, which is in the hole of -
		{api.Rows{1: 1 << 2}, 1},                       // not in that of +
		{api.Rows{2: 1 << 3}, 1},                       // + is not in that of -
		{api.Rows{1: 1 << 3}, 3},                       // it is in that of - itself
		{api.Rows{1: 1 << 4, 2: 1 << 3, 4: 1 << 2}, 1}, // but no operator is of 4
	} {
		f, l := e, lex.All([]byte("- * a"))
		f.Rows = c.rows
		holds(t, f, l, c.want)
		if got := longest(f, l); got != c.want {
			t.Errorf("%v: %d", c.rows, got)
		}
	}
}

// P20.1, P20.2: what a token is, is its kind and what it says; where it stands, and why it is bad, is not asked.
func TestTokens(t *testing.T) {
	e := of(t, op("_+_", 3, 1), op("[_]", 3, 0))
	texts := []string{"(", ")", "+", "[", "]", "a", "X", "", "_", "_+_", "."}
	var some []api.Token
	for kind := -1; kind <= 10; kind++ {
		for _, text := range texts {
			some = append(some, api.Token{Kind: kind, Text: text})
		}
	}
	for _, k := range some {
		for _, text := range []string{"a", "(a)", "[a]", "a + b", "((a))", "a + (b)", "[(a)]", "a + ) b"} {
			for at := range lex.All([]byte(text)) {
				l := lex.All([]byte(text))
				l[at] = k
				holds(t, e, l, longest(e, l))
			}
		}
	}
	for seed := range uint64(300) {
		c := rand.New(rand.NewPCG(seed, 204))
		l := bent(c, e, few(c, e, 4))
		want := viable.Longest(e, l)
		for i := range l {
			l[i].From, l[i].To, l[i].Code = c.IntN(99)-9, c.IntN(99)-9, api.Errno(c.IntN(40))
		}
		if got := viable.Longest(e, l); got != want {
			t.Errorf("%s: %d, not %d", words(l), got, want)
		}
	}
}

// P20.1: which tokens may begin a row, by kind, where nothing is declared.
func TestKinds(t *testing.T) {
	for kind, want := range map[int]int{-1: 0, 0: 0, api.TkAtom: 1, api.TkSymbol: 1, api.TkVar: 1, api.TkInt: 1, api.TkQuoted: 1, api.TkSolo: 0, api.TkEnd: 0, api.TkBad: 0, 9: 0} {
		for _, text := range []string{"a", "+", "", "X", "[", ")"} {
			if n := viable.Longest(env.New(), []api.Token{{Kind: kind, Text: text}}); n != want {
				t.Errorf("kind %d, %q: %d", kind, text, n)
			}
		}
	}
	if n := viable.Longest(env.New(), []api.Token{{Kind: api.TkSolo, Text: "("}}); n != 1 {
		t.Errorf("an opening bracket: %d", n)
	}
	if n := viable.Longest(env.New(), []api.Token{{Kind: api.TkQuoted, Text: "("}, {Kind: api.TkVar, Text: "X"}}); n != 1 {
		t.Errorf("a quoted one: %d", n)
	}
}

// P20.3: what has a tree goes on, and so does each beginning of it; and whatever stands behind that, it goes as far, at least.
func TestBeginnings(t *testing.T) {
	trees := 0
	for seed := range uint64(2000) {
		c := rand.New(rand.NewPCG(seed, 205))
		e := anyEnv(t, c, patterns, 1+c.IntN(api.MaxOpers))
		l := few(c, e, 1+c.IntN(5))
		if many, _ := derive.Count(e, l); many == 0 {
			continue
		}
		trees++
		for n := range len(l) + 1 {
			if m := viable.Longest(e, l[:n]); m != n {
				t.Errorf("%+v, %s: of the first %d %d go on", e, words(l), n, m)
			}
			more := slices.Concat(l[:n], grown(c, e, 1))
			if m := viable.Longest(e, more[:min(len(more), api.MaxTokens)]); m < n {
				t.Errorf("%+v, %s: with others behind the first %d go on %d", e, words(more), n, m)
			}
		}
	}
	if trees < 600 {
		t.Errorf("of %d", trees)
	}
}

// P20.2: as many tokens as there may be, and as many operators, which have the same part at each place.
func TestGreat(t *testing.T) {
	some := []api.Oper{op("_*_", 5, 1)}
	for n := 1; n <= api.MaxParts; n++ {
		for _, ends := range [][2]string{{"", ""}, {"_", ""}, {"", "_"}, {"_", "_"}} {
			if p := ends[0] + strings.Repeat("+_", n-1) + "+" + ends[1]; strings.Contains(p, "_") {
				some = append(some, op(p, 1+len(some)%5, 0))
			}
		}
	}
	e := of(t, some...)
	if len(e.Opers) != api.MaxOpers {
		t.Fatal(len(e.Opers))
	}
	same := func(l []api.Token) {
		if got, want := viable.Longest(e, l), longest(e, l); got != want {
			t.Errorf("%+v, %s: %d, not %d", e, words(l), got, want)
		}
	}
	for way := range 3 { // of rising groups, which lean nowhere; of one group, to the left; of falling ones, to the right
		for _, o := range some[1:] {
			o.Group = []int{o.Group, 3, 6 - o.Group}[way]
			if way == 1 && strings.HasPrefix(o.Pattern, "_") || way == 2 && strings.HasSuffix(o.Pattern, "_") {
				o.Assoc = way
			}
			e, _ = env.Add(e, o)
		}
		for _, text := range []string{strings.Repeat("+", 32), strings.Repeat("+", 31) + "a", "a" + strings.Repeat("+", 31), strings.Repeat("+a", 16), strings.Repeat("a+", 15) + "a", strings.Repeat("+", 16) + "a" + strings.Repeat("+", 15), strings.Repeat("a*", 15) + "a", strings.Repeat("a*", 16), strings.Repeat("+a*", 10) + "a", strings.Repeat("a+++", 8), strings.Repeat("(", 15) + "a" + strings.Repeat(")", 15), strings.Repeat("(+", 16), strings.Repeat("+a", 15) + "*a"} {
			same(lex.All([]byte(strings.Join(strings.Split(text, ""), " "))))
		}
	}
	for seed := range uint64(60) {
		c := rand.New(rand.NewPCG(seed, 206))
		e.Rows = anyRows(c)
		var l []api.Token
		for len(l) < 24 {
			l = few(c, e, 6)
		}
		same(l)
		same(bent(c, e, l))
	}
}

// P20.2: 32 tokens, all on one side, or as deep as they may be; a great many of them end too, though they are not asked of.
func TestLong(t *testing.T) {
	e := of(t, op("[_]", 9, 0), op("_!", 1, 1), op("_+_", 3, 1), op("_^_", 3, 2), op("if_then_", 5, 2), op("if_then_else_", 5, 2), op("-_", 2, 2))
	for _, c := range []struct {
		text string
		want int
	}{
		{strings.Repeat("a + ", 16), 32},
		{strings.Repeat("a ^ ", 15) + "a a", 31},
		{strings.Repeat("- ", 32), 32},
		{strings.Repeat("- ", 30) + "! a", 30},
		{"a" + strings.Repeat(" !", 30) + " a", 31},
		{strings.Repeat("(", 32), 32},
		{strings.Repeat("(", 31) + ")", 31},
		{strings.Repeat("[", 32), 32},
		{strings.Repeat("(", 15) + "a" + strings.Repeat(")", 16), 31},
		{strings.Repeat("(", 15) + "- a" + strings.Repeat(")", 14) + "]", 31},
		{strings.Repeat("([", 7) + "a" + strings.Repeat("])", 7), 29},
		{strings.Repeat("if ", 32), 32},
		{strings.Repeat("if ", 10) + "a" + strings.Repeat(" then b", 10) + " then", 31},
		{strings.Repeat("if a then ", 7) + "b" + strings.Repeat(" else b", 5), 32},
		{strings.Repeat("if a then ", 3) + "b" + strings.Repeat(" else b", 4), 16},
		{strings.Repeat("a + ", 40) + "a", 161 - 80},
		{strings.Repeat("(", 70) + "a" + strings.Repeat(")", 80), 141},
	} {
		l := lex.All([]byte(c.text))
		if n := viable.Longest(e, l); n != c.want {
			t.Errorf("%s: %d, not %d", c.text, n, c.want)
		}
		if len(l) <= api.MaxTokens {
			holds(t, e, l, longest(e, l))
		}
	}
}

// R6, R7: a second call tells the same, whatever was asked between, and what becomes of an env and of tokens that were handed in.
func TestAgain(t *testing.T) {
	e, l := sums(t), lex.All([]byte("(a + b) * [c ! !] ^ (d ] + e"))
	for range 3 {
		f, m := api.Env{Opers: slices.Clone(e.Opers), Rows: e.Rows}, slices.Clone(l)
		if n := viable.Longest(f, m); n != 14 {
			t.Errorf("%d", n)
		}
		clear(f.Opers)
		clear(m)
		if n := viable.Longest(env.New(), l); n != 2 {
			t.Errorf("%d without operators", n)
		}
		if n := viable.Longest(e, l[1:]); n != 3 {
			t.Errorf("%d without the first token", n)
		}
	}
	if n := viable.Longest(api.Env{}, nil); n != 0 {
		t.Errorf("%d of nothing", n)
	}
}

// R1: operators that may not be are not asked of; even so nothing panics, and what has no shape derives nothing.
func TestShapeless(t *testing.T) {
	good := sums(t)
	for _, pattern := range []string{"", "_", "__", "x", "_,_", "(_)", "x__y", "_X_", "_" + strings.Repeat("x", 40)} {
		e := api.Env{Opers: append([]api.Oper{op(pattern, 1, 0)}, good.Opers...), Rows: good.Rows}
		for _, text := range []string{"", "a", "a + b", "if a then b else else", "x", "(x)", "a , b", "()", "( (", "a + b x c", "[", "x y", "a b"} {
			l := lex.All([]byte(text))
			holds(t, e, l, viable.Longest(good, l))
		}
	}
	for _, group := range []int{-1 << 63, -1, 0, 10, 64, 1<<63 - 1} {
		e := api.Env{Opers: []api.Oper{op("_+_", group, group)}, Rows: good.Rows}
		if n := viable.Longest(e, lex.All([]byte("a + b + c"))); n != 3 {
			t.Errorf("%d: %d", group, n)
		}
	}
}
