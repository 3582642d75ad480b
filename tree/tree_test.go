package tree_test

import (
	"fmt"
	"math"
	"math/rand/v2"
	"slices"
	"strings"
	"testing"

	"tmesis/api"
	"tmesis/env"
	"tmesis/fits"
	"tmesis/graph"
	"tmesis/lex"
	"tmesis/shape"
	"tmesis/tree"
)

// patterns is some that have a shape: with holes at both ends, at the right one, at the left one, and at none.
var patterns = []string{"_+_", "_*_", "_?_:_", "-_", "if_then_", "if_then_else_", "_!", "_[_]", "[_]", "|_|", "_a_b_c_d_", "_-_", "_a_a"}

// bad is some that have none.
var bad = []string{"", "_", "__", "x", "_,_", "(_)", "_(_", "x__y", "_X_", "_ y_", "_" + strings.Repeat("x", 40)}

// far is numbers of all sizes: small ones, their opposites, and those that go round to them.
func far() []int {
	out := []int{math.MinInt, math.MinInt + 1, math.MinInt + 3, math.MaxInt, math.MaxInt - 1, math.MaxInt - 2, 1<<31 - 1, 1 << 31, -1 << 31, 1 << 32, 1<<32 + 1, 1<<32 + 2, 1<<32 + 3, 1 << 62, 255, 256, 257, 1<<16 + 1}
	for i := -12; i <= 12; i++ {
		out = append(out, i)
	}
	return out
}

// op is an operator.
func op(pattern string, group, assoc int) api.Oper {
	return api.Oper{Pattern: pattern, Group: group, Assoc: assoc}
}

// of is an env of the ladder with these operators, as they come.
func of(l ...api.Oper) api.Env {
	return api.Env{Opers: l, Rows: graph.Start()}
}

// node is a node.
func node(kind int, name string, from, to, kids int) api.Node {
	return api.Node{Kind: kind, Name: name, From: from, To: to, Kids: kids}
}

// row is nodes with so many kids each, of which nothing else is said.
func row(kids ...int) []api.Node {
	var t []api.Node
	for i, n := range kids {
		t = append(t, node(1+i%3, string(rune('a'+i%26)), i, i+1, n))
	}
	return t
}

// end and kids are what End and Kids have to tell.
func end(t []api.Node, i int) int {
	if i < 0 || i >= len(t) {
		return -1
	}
	at := i + 1
	for n := 0; n < t[i].Kids && at != -1; n++ {
		at = end(t, at)
	}
	return at
}

func kids(t []api.Node, i int) []int {
	if end(t, i) == -1 {
		return nil
	}
	var out []int
	at := i + 1
	for n := 0; n < t[i].Kids; n++ {
		out = append(out, at)
		at = end(t, at)
	}
	return out
}

// places holds End and Kids of t at i against what they have to tell.
func places(t *testing.T, l []api.Node, i int) {
	t.Helper()
	if got, want := tree.End(l, i), end(l, i); got != want {
		t.Errorf("End(%.300s, %d) = %d, not %d", fmt.Sprint(l), i, got, want)
	}
	if got, want := tree.Kids(l, i), kids(l, i); !slices.Equal(got, want) {
		t.Errorf("Kids(%.300s, %d) = %d, not %d", fmt.Sprint(l), i, got, want)
	}
}

// all is each tree that derives the tokens of l from one place to ahead of another one, made from the operators down.
func all(e api.Env, l []api.Token, from, to int) [][]api.Node {
	var out [][]api.Node
	if to-from == 1 && fits.Leaf(e, l[from]) {
		out = append(out, []api.Node{node(1, l[from].Text, from, to, 0)})
	}
	if to-from > 2 && l[from].Kind == 6 && l[from].Text == "(" && l[to-1].Kind == 6 && l[to-1].Text == ")" {
		for _, kid := range all(e, l, from+1, to-1) {
			out = append(out, append([]api.Node{node(2, "", from, to, 1)}, kid...))
		}
	}
	for i, o := range e.Opers {
		again := slices.ContainsFunc(e.Opers[:i], func(k api.Oper) bool { return k.Pattern == o.Pattern })
		if _, code := shape.Of(o.Pattern); again || code != 0 {
			continue
		}
		for _, below := range fills(e, o, l, o.Pattern, from, to) {
			out = append(out, append([]api.Node{node(3, o.Pattern, from, to, strings.Count(o.Pattern, "_"))}, below...))
		}
	}
	return out
}

// fills is each row of kids by which what is left of the pattern of o derives these tokens.
func fills(e api.Env, o api.Oper, l []api.Token, left string, from, to int) [][]api.Node {
	if left == "" {
		if from == to {
			return [][]api.Node{nil}
		}
		return nil
	}
	name, _, _ := strings.Cut(left, "_")
	if name != "" {
		if from == to || !fits.Part(l[from], name) {
			return nil
		}
		return fills(e, o, l, left[len(name):], from+1, to)
	}
	var out [][]api.Node
	for end := from + 1; end <= to; end++ {
		rests := fills(e, o, l, left[1:], end, to)
		if rests == nil {
			continue
		}
		for _, kid := range all(e, l, from, end) {
			if left == o.Pattern && !takes(e, o, kid[0], false) || left == "_" && !takes(e, o, kid[0], true) {
				continue
			}
			for _, rest := range rests {
				out = append(out, slices.Concat(kid, rest))
			}
		}
	}
	return out
}

// takes tells whether a kid may stand at an end of o.
func takes(e api.Env, o api.Oper, kid api.Node, right bool) bool {
	for _, k := range e.Opers {
		if kid.Kind == 3 && k.Pattern == kid.Name {
			return fits.Fits(e.Rows, o, k, right)
		}
	}
	return true
}

// among tells whether n is one of these trees.
func among(trees [][]api.Node, n []api.Node) bool {
	return slices.ContainsFunc(trees, func(t []api.Node) bool { return slices.Equal(t, n) })
}

// right holds Right against all trees that derive l, and sees that nothing that is handed in is changed.
func right(t *testing.T, e api.Env, l []api.Token, n []api.Node, trees [][]api.Node) bool {
	t.Helper()
	opers, tokens, nodes := slices.Clone(e.Opers), slices.Clone(l), slices.Clone(n)
	got := tree.Right(e, l, n)
	if want := among(trees, n); got != want {
		t.Errorf("Right(%.600s, %.600s, %.600s) = %t", fmt.Sprint(e), fmt.Sprint(l), fmt.Sprint(n), got)
	}
	if !slices.Equal(e.Opers, opers) || !slices.Equal(l, tokens) || !slices.Equal(n, nodes) {
		t.Errorf("%.600s has become %.600s", fmt.Sprint(opers, tokens, nodes), fmt.Sprint(e.Opers, l, n))
	}
	return got
}

// spoiled is t with one thing changed: a field of a node, a node left out, said twice or put in, two that have changed places.
func spoiled(t []api.Node) [][]api.Node {
	var out [][]api.Node
	for i, n := range t {
		put := func(change func(n *api.Node)) {
			l := slices.Clone(t)
			change(&l[i])
			out = append(out, l)
		}
		for k := range 6 {
			put(func(n *api.Node) { n.Kind = k - 1 })
		}
		for _, name := range append([]string{"", "a", "b", "(", ")", "()", n.Name + "_", n.Name + " ", "_" + n.Name, strings.ToUpper(n.Name)}, patterns...) {
			put(func(n *api.Node) { n.Name = name })
		}
		for d := -3; d <= 3; d++ {
			put(func(n *api.Node) { n.From += d })
			put(func(n *api.Node) { n.To += d })
			put(func(n *api.Node) { n.From, n.To = n.From+d, n.To+d })
			put(func(n *api.Node) { n.Kids += d })
		}
		out = append(out, slices.Delete(slices.Clone(t), i, i+1), slices.Insert(slices.Clone(t), i, n), t[:i], t[i+1:])
		out = append(out, slices.Insert(slices.Clone(t), i, node(2, "", n.From, n.To, 1)), append(slices.Clone(t), n))
		for k := range i {
			put(func(n *api.Node) { *n = t[k] })
			l := slices.Clone(t)
			l[i], l[k] = l[k], l[i]
			out = append(out, l)
		}
	}
	return out
}

// grown is tokens that begin at a place, and a tree that derives them, but for how its operators fit: of few operators, or none, as deep as is said.
func grown(c *rand.Rand, e api.Env, at, deep int) ([]api.Token, []api.Node) {
	most := 8
	if deep <= 0 {
		most = 2
	}
	pick := c.IntN(most)
	if pick > 2 && len(e.Opers) > 0 {
		return operated(c, e, at, deep)
	}
	if pick == 2 {
		l, t := grown(c, e, at+1, deep-1)
		l = append(append([]api.Token{{Kind: 6, Text: "("}}, l...), api.Token{Kind: 6, Text: ")"})
		return l, append([]api.Node{node(2, "", at, at+len(l), 1)}, t...)
	}
	k := []api.Token{{Kind: 1, Text: "p"}, {Kind: 3, Text: "X"}, {Kind: 4, Text: "7"}, {Kind: 5, Text: "+"}, {Kind: 2, Text: "&"}}[c.IntN(5)]
	return []api.Token{k}, []api.Node{node(1, k.Text, at, at+1, 0)}
}

// operated is grown of one of the operators of e.
func operated(c *rand.Rand, e api.Env, at, deep int) ([]api.Token, []api.Node) {
	o := e.Opers[c.IntN(len(e.Opers))]
	var l []api.Token
	var t []api.Node
	for i, name := range strings.Split(o.Pattern, "_") {
		if i > 0 {
			m, u := grown(c, e, at+len(l), deep-1)
			l, t = append(l, m...), append(t, u...)
		}
		if name != "" {
			kind := 1
			if tokens := lex.All([]byte(name)); len(tokens) == 1 {
				kind = tokens[0].Kind
			}
			l = append(l, api.Token{Kind: kind, Text: name})
		}
	}
	return l, append([]api.Node{node(3, o.Pattern, at, at+len(l), strings.Count(o.Pattern, "_"))}, t...)
}

// anyEnv is a few operators, which need not rise, nor be ones that may be; now and then one stands twice, with another group.
func anyEnv(c *rand.Rand) api.Env {
	e := api.Env{Rows: graph.Start()}
	for range c.IntN(6) {
		o := op(patterns[c.IntN(len(patterns))], 1+c.IntN(9), c.IntN(3))
		if c.IntN(3) > 0 {
			o.Group = 1 + c.IntN(3)
		}
		if c.IntN(30) == 0 {
			o.Pattern = bad[c.IntN(len(bad))]
		}
		if len(e.Opers) > 0 && c.IntN(8) == 0 {
			o.Pattern = e.Opers[c.IntN(len(e.Opers))].Pattern
		}
		e.Opers = append(e.Opers, o)
	}
	for range c.IntN(4) {
		if rows, code := graph.Edge(e.Rows, 1+c.IntN(9), 1+c.IntN(9)); code == 0 {
			e.Rows = rows
		}
	}
	return e
}

// P18.1: ends and kids of nodes that are whole, that have too few below them, and at places that there are not.
func TestEndTable(t *testing.T) {
	for _, c := range []struct {
		kids []int
		at   int
		end  int
		has  []int
	}{
		{nil, 0, -1, nil},
		{nil, -1, -1, nil},
		{[]int{0}, 0, 1, nil},
		{[]int{0}, 1, -1, nil},
		{[]int{0}, -1, -1, nil},
		{[]int{-1}, 0, 1, nil}, // below 0 is none
		{[]int{math.MinInt, 0}, 0, 1, nil},
		{[]int{1}, 0, -1, nil},
		{[]int{1, 0}, 0, 2, []int{1}},
		{[]int{1, -5}, 0, 2, []int{1}},
		{[]int{1, 0, 0}, 0, 2, []int{1}}, // what stands behind is not asked
		{[]int{0, 9, 9}, 0, 1, nil},
		{[]int{1, 1}, 0, -1, nil},
		{[]int{2, 0}, 0, -1, nil}, // one too few, the first one of which is there
		{[]int{2, 0, 0}, 0, 3, []int{1, 2}},
		{[]int{2, 1, 0, 0}, 0, 4, []int{1, 3}},
		{[]int{2, 0, 1, 0}, 0, 4, []int{1, 2}},
		{[]int{2, 0, 1}, 0, -1, nil},
		{[]int{2, 1, 0}, 0, -1, nil},
		{[]int{2, 1, 0}, 1, 3, []int{2}}, // those below may be whole even so
		{[]int{3, 0, 2, 0, 0, 1, 0, 0}, 0, 7, []int{1, 2, 5}},
		{[]int{3, 0, 2, 0, 0, 1, 0, 0}, 2, 5, []int{3, 4}},
		{[]int{3, 0, 2, 0, 0, 1, 0, 0}, 7, 8, nil},
		{[]int{3, 0, 2, 0, 0, 1, 0, 0}, 8, -1, nil},
		{[]int{math.MaxInt, 0}, 0, -1, nil},
		{[]int{3, 0, math.MaxInt, 0}, 0, -1, nil}, // as a sum these would go round
		{[]int{3, math.MaxInt, math.MaxInt, 0}, 0, -1, nil},
		{[]int{2, 0, math.MinInt, 0}, 0, 3, []int{1, 2}},
		{[]int{3, math.MinInt, math.MinInt, math.MinInt}, 0, 4, []int{1, 2, 3}},
	} {
		l := row(c.kids...)
		if got := tree.End(l, c.at); got != c.end {
			t.Errorf("End(%d, %d) = %d, not %d", c.kids, c.at, got, c.end)
		}
		if got := tree.Kids(l, c.at); !slices.Equal(got, c.has) {
			t.Errorf("Kids(%d, %d) = %d, not %d", c.kids, c.at, got, c.has)
		}
	}
}

// P18.1: all rows of up to six nodes with up to three kids, at each place.
func TestEndAll(t *testing.T) {
	var rows func(l []int)
	rows = func(l []int) {
		for i := -1; i <= len(l); i++ {
			places(t, row(l...), i)
		}
		for k := -1; k <= 3 && len(l) < 6; k++ {
			rows(append(slices.Clone(l), k))
		}
	}
	rows(nil)
}

// P18.1, R1: places and numbers of kids of all sizes.
func TestEndNumbers(t *testing.T) {
	whole := []int{3, 0, 2, 0, 0, 1, 0}
	for _, n := range far() {
		places(t, nil, n)
		places(t, row(whole...), n)
		for at := range whole {
			for _, m := range far() {
				l := slices.Clone(whole)
				l[at] = n
				l[(at+2)%len(l)] = m
				for i := range l {
					places(t, row(l...), i)
				}
			}
		}
	}
}

// P18.1: what else a node says is of no account.
func TestEndFields(t *testing.T) {
	for _, n := range far() {
		l := row(2, 1, 0, 0)
		for i := range l {
			l[i].Kind, l[i].From, l[i].To, l[i].Name = n, n, -n, strings.Repeat("x", i)
		}
		if !slices.Equal(tree.Kids(l, 0), []int{1, 3}) || tree.End(l, 0) != 4 || tree.End(l, 1) != 3 {
			t.Errorf("%+v", l)
		}
	}
}

// P18.1: rows of all kinds.
func TestEndRandom(t *testing.T) {
	whole := 0
	for seed := range uint64(4000) {
		c := rand.New(rand.NewPCG(seed, 181))
		l := make([]api.Node, c.IntN(40))
		for i := range l {
			l[i] = node(c.IntN(5), "n", c.IntN(9), c.IntN(9), max(c.IntN(6)-3, 0))
			if c.IntN(40) == 0 {
				l[i].Kids = far()[c.IntN(len(far()))]
			}
		}
		for i := range len(l) + 2 {
			places(t, l, i-1)
			if end(l, i-1) > i+1 {
				whole++
			}
		}
	}
	if whole < 2000 {
		t.Errorf("no more than %d have many nodes", whole)
	}
}

// P18.1, R1: many nodes, beside and below each other.
func TestEndBig(t *testing.T) {
	const n = 1 << 18
	wide, deep, lone := make([]api.Node, n+1), make([]api.Node, n+1), make([]api.Node, n+1)
	wide[0].Kids = n
	for i := range n {
		deep[i].Kids, lone[i].Kids = 1, 1
	}
	lone[n].Kids = 1
	has := tree.Kids(wide, 0)
	if tree.End(wide, 0) != n+1 || len(has) != n || has[0] != 1 || has[n-1] != n {
		t.Errorf("wide: %d, %d", tree.End(wide, 0), len(has))
	}
	wide[0].Kids++
	if tree.End(wide, 0) != -1 || len(tree.Kids(wide, 0)) != 0 {
		t.Errorf("wider: %d", tree.End(wide, 0))
	}
	for _, i := range []int{0, 1, n / 2, n - 1} {
		if tree.End(deep, i) != n+1 || !slices.Equal(tree.Kids(deep, i), []int{i + 1}) {
			t.Errorf("deep at %d: %d, %d", i, tree.End(deep, i), tree.Kids(deep, i))
		}
		if tree.End(lone, i) != -1 || len(tree.Kids(lone, i)) != 0 {
			t.Errorf("deep without a leaf, at %d: %d", i, tree.End(lone, i))
		}
	}
}

// sums is an env of the operators that the tables are about.
func sums() api.Env {
	return of(op("[_]", 9, 0), op("_!", 1, 1), op("_*_", 2, 1), op("_+_", 3, 1), op("_^_", 2, 2), op("if_then_", 5, 0), op("-_", 4, 2), op("_=_", 4, 0), op("_?_:_", 5, 2))
}

// P18.2: trees that derive a text's tokens; each of them does no more with one thing changed, but where that is another tree that does.
func TestRightTable(t *testing.T) {
	for _, c := range []struct {
		text string
		tree []api.Node
	}{
		{"a", []api.Node{node(1, "a", 0, 1, 0)}},
		{"X", []api.Node{node(1, "X", 0, 1, 0)}},
		{"007", []api.Node{node(1, "007", 0, 1, 0)}},
		{"'+'", []api.Node{node(1, "+", 0, 1, 0)}},
		{"''", []api.Node{node(1, "", 0, 1, 0)}},
		{":-", []api.Node{node(1, ":-", 0, 1, 0)}},
		{"(a)", []api.Node{node(2, "", 0, 3, 1), node(1, "a", 1, 2, 0)}},
		{"((X))", []api.Node{node(2, "", 0, 5, 1), node(2, "", 1, 4, 1), node(1, "X", 2, 3, 0)}},
		{"a + b", []api.Node{node(3, "_+_", 0, 3, 2), node(1, "a", 0, 1, 0), node(1, "b", 2, 3, 0)}}, // the chapter's
		{"a!", []api.Node{node(3, "_!", 0, 2, 1), node(1, "a", 0, 1, 0)}},
		{"- a", []api.Node{node(3, "-_", 0, 2, 1), node(1, "a", 1, 2, 0)}},
		{"[a]", []api.Node{node(3, "[_]", 0, 3, 1), node(1, "a", 1, 2, 0)}},
		{"if a then b", []api.Node{node(3, "if_then_", 0, 4, 2), node(1, "a", 1, 2, 0), node(1, "b", 3, 4, 0)}},
		{"a ? b : c", []api.Node{node(3, "_?_:_", 0, 5, 3), node(1, "a", 0, 1, 0), node(1, "b", 2, 3, 0), node(1, "c", 4, 5, 0)}},
		{"a + b * c", []api.Node{node(3, "_+_", 0, 5, 2), node(1, "a", 0, 1, 0), node(3, "_*_", 2, 5, 2), node(1, "b", 2, 3, 0), node(1, "c", 4, 5, 0)}},
		{"a + b + c", []api.Node{node(3, "_+_", 0, 5, 2), node(3, "_+_", 0, 3, 2), node(1, "a", 0, 1, 0), node(1, "b", 2, 3, 0), node(1, "c", 4, 5, 0)}},
		{"a ^ b ^ c", []api.Node{node(3, "_^_", 0, 5, 2), node(1, "a", 0, 1, 0), node(3, "_^_", 2, 5, 2), node(1, "b", 2, 3, 0), node(1, "c", 4, 5, 0)}},
		{"a * (b + c)", []api.Node{node(3, "_*_", 0, 7, 2), node(1, "a", 0, 1, 0), node(2, "", 2, 7, 1), node(3, "_+_", 3, 6, 2), node(1, "b", 3, 4, 0), node(1, "c", 5, 6, 0)}},
		{"(a + b)!", []api.Node{node(3, "_!", 0, 6, 1), node(2, "", 0, 5, 1), node(3, "_+_", 1, 4, 2), node(1, "a", 1, 2, 0), node(1, "b", 3, 4, 0)}},
		{"[a + b]!", []api.Node{node(3, "_!", 0, 6, 1), node(3, "[_]", 0, 5, 1), node(3, "_+_", 1, 4, 2), node(1, "a", 1, 2, 0), node(1, "b", 3, 4, 0)}}, // no hole at an end: it fits, and so does all within
		{"a ? if b then c : d", []api.Node{node(3, "_?_:_", 0, 8, 3), node(1, "a", 0, 1, 0), node(3, "if_then_", 2, 6, 2), node(1, "b", 3, 4, 0), node(1, "c", 5, 6, 0), node(1, "d", 7, 8, 0)}},
		{"- - a!", []api.Node{node(3, "-_", 0, 4, 1), node(3, "-_", 1, 4, 1), node(3, "_!", 2, 4, 1), node(1, "a", 2, 3, 0)}},
		{"if [(X)] then 'then' + 1", []api.Node{node(3, "if_then_", 0, 10, 2), node(3, "[_]", 1, 6, 1), node(2, "", 2, 5, 1), node(1, "X", 3, 4, 0), node(3, "_+_", 7, 10, 2), node(1, "then", 7, 8, 0), node(1, "1", 9, 10, 0)}},
	} {
		e, l := sums(), lex.All([]byte(c.text))
		if !tree.Right(e, l, c.tree) {
			t.Errorf("%q", c.text)
		}
		trees := all(e, l, 0, len(l))
		right(t, e, l, c.tree, trees)
		for _, s := range spoiled(c.tree) {
			right(t, e, l, s, trees)
		}
		others(t, e, l, c.tree)
	}
}

// others holds that a tree does not derive other tokens than its own: one left out, put in, said twice, or of another kind or text; and that what else a token says is not asked.
func others(t *testing.T, e api.Env, l []api.Token, n []api.Node) {
	t.Helper()
	for i, k := range l {
		for _, m := range [][]api.Token{slices.Delete(slices.Clone(l), i, i+1), slices.Insert(slices.Clone(l), i, k), slices.Insert(slices.Clone(l), i, api.Token{Kind: 3, Text: "X"}), l[:i], l[i+1:]} {
			if tree.Right(e, m, n) {
				t.Errorf("%+v derives %+v", n, m)
			}
		}
		for kind := range 10 {
			for _, text := range []string{k.Text, k.Text + " ", "", "a", "+", "(", ")", "if", "X"} {
				m := slices.Clone(l)
				m[i] = api.Token{Kind: kind, Text: text, From: -kind, To: math.MaxInt, Code: 9}
				right(t, e, m, n, all(e, m, 0, len(m)))
			}
		}
	}
	if tree.Right(e, append(slices.Clone(l), api.Token{Kind: 7, Text: "."}), n) {
		t.Errorf("%+v derives an end", n)
	}
}

// P18.2: what derives nothing, of each kind of fault alone.
func TestRightWrong(t *testing.T) {
	leaf, sum := node(1, "a", 0, 1, 0), node(3, "_+_", 0, 3, 2)
	for i, c := range []struct {
		text string
		tree []api.Node
	}{
		{"", nil},
		{"", []api.Node{{}}},
		{"", []api.Node{node(1, "", 0, 0, 0)}},
		{"", []api.Node{node(2, "", 0, 0, 1), node(1, "", 0, 0, 0)}},
		{"a", nil},
		{"a", []api.Node{leaf, leaf}},                  // two trees
		{"a", []api.Node{node(1, "a", 0, 1, 1)}},       // a kid that is not there
		{"a", []api.Node{node(1, "a", 0, 1, -1)}},      // less than none
		{"a", []api.Node{node(1, "a", 0, 1, 1), leaf}}, // a leaf has none
		{"a", []api.Node{node(1, "b", 0, 1, 0)}},       // another text
		{"a", []api.Node{node(2, "", 0, 1, 1), leaf}},  // no brackets
		{"a", []api.Node{node(0, "a", 0, 1, 0)}},       // no kind
		{"a", []api.Node{node(4, "a", 0, 1, 0)}},       // likewise
		{"a b", []api.Node{node(1, "a", 0, 2, 0)}},     // two tokens
		{"a b", []api.Node{leaf}},                      // not all of them
		{"a b", []api.Node{node(1, "b", 1, 2, 0)}},     // likewise
		{"if", []api.Node{node(1, "if", 0, 1, 0)}},     // a part of an operator
		{"[", []api.Node{node(1, "[", 0, 1, 0)}},       // likewise
		{"(", []api.Node{node(1, "(", 0, 1, 0)}},       // a bracket
		{".", []api.Node{node(1, ".", 0, 1, 0)}},       // an end
		{"\x00", []api.Node{node(1, "\x00", 0, 1, 0)}}, // a bad one
		{"()", []api.Node{node(2, "", 0, 2, 0)}},       // nothing between the brackets
		{"()", []api.Node{node(2, "", 0, 2, 1), leaf}}, // likewise
		{"()", []api.Node{node(2, "", 0, 2, 1), node(1, "", 1, 1, 0)}},
		{"()", []api.Node{node(2, "", 0, 2, 1), node(1, "(", 0, 1, 0)}},
		{"()", []api.Node{node(2, "", 0, 2, 1), node(1, ")", 1, 2, 0)}},
		{"(a)", []api.Node{node(2, "a", 0, 3, 1), node(1, "a", 1, 2, 0)}},                                           // a name
		{"(a)", []api.Node{node(2, "", 0, 3, 2), node(1, "a", 1, 2, 0), node(1, "a", 1, 2, 0)}},                     // two kids, each of which derives its own
		{"(a)", []api.Node{node(2, "", 0, 3, 0)}},                                                                   // none
		{"(a)", []api.Node{node(2, "", 0, 3, 1), node(1, "a", 0, 1, 0)}},                                            // a kid elsewhere
		{"a)", []api.Node{node(2, "", 0, 2, 1), leaf}},                                                              // one bracket
		{"(a", []api.Node{node(2, "", 0, 2, 1), node(1, "a", 1, 2, 0)}},                                             // likewise
		{"(a]", []api.Node{node(2, "", 0, 3, 1), node(1, "a", 1, 2, 0)}},                                            // brackets that are no pair
		{")a(", []api.Node{node(2, "", 0, 3, 1), node(1, "a", 1, 2, 0)}},                                            // the wrong way round
		{"[a]", []api.Node{node(2, "", 0, 3, 1), node(1, "a", 1, 2, 0)}},                                            // other ones
		{"(a)", []api.Node{node(3, "(_)", 0, 3, 1), node(1, "a", 1, 2, 0)}},                                         // no operator
		{"'(' a ')'", []api.Node{node(2, "", 0, 3, 1), node(1, "a", 1, 2, 0)}},                                      // between quotes
		{"(a b)", []api.Node{node(2, "", 0, 4, 1), node(1, "a", 1, 2, 0)}},                                          // one more within
		{"(a b)", []api.Node{node(2, "", 0, 4, 1), node(1, "b", 2, 3, 0)}},                                          // likewise
		{"a + b", []api.Node{sum, leaf}},                                                                            // one kid too few
		{"a + b", []api.Node{node(3, "_+_", 0, 3, 1), leaf}},                                                        // likewise
		{"a + b", []api.Node{node(3, "_+_", 0, 3, 3), leaf, node(1, "b", 2, 3, 0), leaf}},                           // one too many
		{"a + b", []api.Node{node(3, "_+_", 0, 3, 0)}},                                                              // none
		{"a + b", []api.Node{node(3, "_*_", 0, 3, 2), leaf, node(1, "b", 2, 3, 0)}},                                 // another operator
		{"a + b", []api.Node{node(3, "+", 0, 3, 2), leaf, node(1, "b", 2, 3, 0)}},                                   // no pattern
		{"a '+' b", []api.Node{sum, leaf, node(1, "b", 2, 3, 0)}},                                                   // between quotes
		{"a + b", []api.Node{sum, leaf, leaf}},                                                                      // kids elsewhere
		{"a + b", []api.Node{sum, node(1, "b", 2, 3, 0), leaf}},                                                     // the wrong way round
		{"a + b c", []api.Node{node(3, "_+_", 0, 4, 2), leaf, node(1, "b", 2, 3, 0)}},                               // one more behind
		{"c a + b", []api.Node{node(3, "_+_", 0, 4, 2), node(1, "a", 1, 2, 0), node(1, "b", 3, 4, 0)}},              // ahead
		{"a c + b", []api.Node{node(3, "_+_", 0, 4, 2), leaf, node(1, "b", 3, 4, 0)}},                               // between
		{"a + c b", []api.Node{node(3, "_+_", 0, 4, 2), leaf, node(1, "b", 3, 4, 0)}},                               // likewise
		{"a - b", []api.Node{node(3, "_-_", 0, 3, 2), leaf, node(1, "b", 2, 3, 0)}},                                 // an operator that there is not
		{"a + b * c", []api.Node{node(3, "_*_", 0, 5, 2), sum, leaf, node(1, "b", 2, 3, 0), node(1, "c", 4, 5, 0)}}, // does not fit
		{"a = b = c", []api.Node{node(3, "_=_", 0, 5, 2), node(3, "_=_", 0, 3, 2), leaf, node(1, "b", 2, 3, 0), node(1, "c", 4, 5, 0)}},
		{"a ^ b ^ c", []api.Node{node(3, "_^_", 0, 5, 2), node(3, "_^_", 0, 3, 2), leaf, node(1, "b", 2, 3, 0), node(1, "c", 4, 5, 0)}},
		{"- a!", []api.Node{node(3, "_!", 0, 3, 1), node(3, "-_", 0, 2, 1), node(1, "a", 1, 2, 0)}},
		{"- a = b", []api.Node{node(3, "-_", 0, 4, 1), node(3, "_=_", 1, 4, 2), node(1, "a", 1, 2, 0), node(1, "b", 3, 4, 0)}},
	} {
		if tree.Right(sums(), lex.All([]byte(c.text)), c.tree) {
			t.Errorf("%d: %+v derives %q", i, c.tree, c.text)
		}
	}
}

// P18.2: one node, and two of which the first one is of a kind and as wide as the tokens, of all small numbers.
func TestRightAll(t *testing.T) {
	var nodes []api.Node
	for kind := range 5 {
		for _, name := range []string{"", "a", "_!", "-_", "[_]", "_+_"} {
			for from := -1; from <= 3; from++ {
				for to := -1; to <= 4; to++ {
					for kids := -1; kids <= 2; kids++ {
						nodes = append(nodes, node(kind, name, from, to, kids))
					}
				}
			}
		}
	}
	n := 0
	for _, text := range []string{"", "a", "(a)", "a!", "-a", "[a]", "- !", "a a", "'(' a)"} {
		l := lex.All([]byte(text))
		trees := all(sums(), l, 0, len(l))
		for _, a := range nodes {
			for _, b := range nodes {
				if a.Kind%4 != 0 && a.To-a.From == len(l) && tree.Right(sums(), l, []api.Node{a, b}) {
					n++
					if !among(trees, []api.Node{a, b}) {
						t.Errorf("%+v, %+v derive %q", a, b, text)
					}
				}
			}
			if tree.Right(sums(), l, []api.Node{a}) {
				n++
				if !among(trees, []api.Node{a}) {
					t.Errorf("%+v derives %q", a, text)
				}
			}
		}
	}
	if n != 5 { // a, (a), a!, -a, [a]
		t.Errorf("%d", n)
	}
}

// P18.2, R1: places, kinds and kids of all sizes in each node.
func TestRightNumbers(t *testing.T) {
	e, l := sums(), lex.All([]byte("if a then (b + X)!"))
	n := []api.Node{node(3, "if_then_", 0, 9, 2), node(1, "a", 1, 2, 0), node(3, "_!", 3, 9, 1), node(2, "", 3, 8, 1), node(3, "_+_", 4, 7, 2), node(1, "b", 4, 5, 0), node(1, "X", 6, 7, 0)}
	trees := all(e, l, 0, len(l))
	if !right(t, e, l, n, trees) || len(trees) != 1 {
		t.Fatalf("%d trees", len(trees))
	}
	for i := range n {
		for _, a := range far() {
			for _, b := range far() {
				for field := range 6 {
					s := slices.Clone(n)
					switch field {
					case 0:
						s[i].From, s[i].To = a, b
					case 1:
						s[i].From, s[i].Kids = a, b
					case 2:
						s[i].To, s[i].Kids = a, b
					case 3:
						s[i].Kind, s[i].Kids = a, b
					case 4:
						s[i].To, s[(i+1)%len(s)].From = a, b
					case 5:
						s[i].Kids, s[(i+1)%len(s)].Kids = a, b
					}
					if tree.Right(e, l, s) != slices.Equal(s, n) {
						t.Errorf("%+v", s)
					}
				}
			}
		}
	}
}

// P18.2: which operator an end's hole takes: each assoc and group of both, and what stands between them.
func TestRightFits(t *testing.T) {
	l := lex.All([]byte("a + b * c"))
	left := []api.Node{node(3, "_*_", 0, 5, 2), node(3, "_+_", 0, 3, 2), node(1, "a", 0, 1, 0), node(1, "b", 2, 3, 0), node(1, "c", 4, 5, 0)}
	after := []api.Node{node(3, "_+_", 0, 5, 2), node(1, "a", 0, 1, 0), node(3, "_*_", 2, 5, 2), node(1, "b", 2, 3, 0), node(1, "c", 4, 5, 0)}
	m := lex.All([]byte("a ( + b ) * c"))
	m[1], m[4] = m[0], m[0] // no brackets, but as many tokens
	edged, _ := graph.Edge(graph.Start(), 7, 3)
	some := 0
	for i := range 9 * 9 * 3 * 3 {
		e := of(op("_*_", 1+i%9, i/81%3), op("_+_", 1+i/9%9, i/243))
		e.Rows = edged
		times, plus := e.Opers[0], e.Opers[1]
		trees := all(e, l, 0, len(l))
		if right(t, e, l, left, trees) != fits.Fits(e.Rows, times, plus, false) || right(t, e, l, after, trees) != fits.Fits(e.Rows, plus, times, true) {
			t.Errorf("%+v", e)
		}
		some += len(trees)
		if tree.Right(e, m, left) || tree.Right(e, m, after) {
			t.Errorf("%+v derives %+v", e, m)
		}
	}
	if some < 200 {
		t.Errorf("no more than %d trees", some)
	}
}

// P18.2: kids that reach further than the node above them, where what stands ahead of its end, and behind, would do for another operator.
func TestRightReach(t *testing.T) {
	e := of(op("_!_", 3, 0), op("-_", 2, 0), op("_!", 1, 0), op("_-_", 3, 0), op("!_", 1, 0))
	for _, c := range []struct {
		text string
		tree []api.Node
		want bool
	}{
		{"- a ! b", []api.Node{node(3, "_!_", 0, 4, 2), node(3, "-_", 0, 2, 1), node(1, "a", 1, 2, 0), node(1, "b", 3, 4, 0)}, true},
		{"- a ! b", []api.Node{node(3, "_!_", 0, 4, 2), node(3, "-_", 0, 2, 1), node(3, "_!", 1, 3, 1), node(1, "a", 1, 2, 0), node(1, "b", 3, 4, 0)}, false},
		{"- a ! b", []api.Node{node(3, "_!_", 0, 4, 2), node(3, "-_", 0, 3, 1), node(3, "_!", 1, 3, 1), node(1, "a", 1, 2, 0), node(1, "b", 3, 4, 0)}, false},
		{"a - ! b", []api.Node{node(3, "_-_", 0, 4, 2), node(1, "a", 0, 1, 0), node(3, "!_", 2, 4, 1), node(1, "b", 3, 4, 0)}, true},
		{"a - ! b", []api.Node{node(3, "_-_", 0, 4, 2), node(1, "a", 0, 1, 0), node(3, "!_", 2, 3, 1), node(1, "b", 3, 4, 0)}, false},
		{"a - ! b", []api.Node{node(3, "_-_", 0, 4, 2), node(1, "a", 0, 1, 0), node(3, "!_", 1, 4, 1), node(1, "b", 3, 4, 0)}, false},
	} {
		l := lex.All([]byte(c.text))
		if right(t, e, l, c.tree, all(e, l, 0, len(l))) != c.want {
			t.Errorf("%q: %+v", c.text, c.tree)
		}
	}
}

// P18.2: a hole that is not at an end takes all, whatever its group; so does one at an end, of brackets, or of what has no hole at an end.
func TestRightWithin(t *testing.T) {
	e := of(op("_?_:_", 1, 0), op("[_]", 1, 0), op("_=_", 9, 0), op("{_}", 9, 0))
	for text, want := range map[string]int{
		"a ? b = c : d": 1, "a = b ? c : d": 0, "a ? b : c = d": 0, "(a = b) ? c : d": 1, "a ? b : (c = d)": 1, "{a = b} ? c : {d = e}": 1, "[a = b]": 1, "[a] = b": 1, "[a] ? [b ? c : d] : [e]": 1, "a ? b ? c : d : e": 1, "a ? b : c ? d : e": 0, "(a ? b : c) ? d : e": 1,
	} {
		l := lex.All([]byte(text))
		trees := all(e, l, 0, len(l))
		if len(trees) != want {
			t.Errorf("%q: %d trees", text, len(trees))
		}
		for _, n := range trees {
			if !tree.Right(e, l, n) {
				t.Errorf("%q: %+v", text, n)
			}
		}
	}
	l := lex.All([]byte("a ? b : c = d"))
	for _, n := range [][]api.Node{
		{node(3, "_?_:_", 0, 7, 3), node(1, "a", 0, 1, 0), node(1, "b", 2, 3, 0), node(3, "_=_", 4, 7, 2), node(1, "c", 4, 5, 0), node(1, "d", 6, 7, 0)},
		{node(3, "_=_", 0, 7, 2), node(3, "_?_:_", 0, 5, 3), node(1, "a", 0, 1, 0), node(1, "b", 2, 3, 0), node(1, "c", 4, 5, 0), node(1, "d", 6, 7, 0)},
	} {
		if tree.Right(e, l, n) {
			t.Errorf("%+v", n)
		}
	}
}

// P18.2: of operators of one pattern the first one counts, be it the one above or the one below; one of no shape derives nothing.
func TestRightFirst(t *testing.T) {
	l := lex.All([]byte("a * b + c"))
	n := []api.Node{node(3, "_+_", 0, 5, 2), node(3, "_*_", 0, 3, 2), node(1, "a", 0, 1, 0), node(1, "b", 2, 3, 0), node(1, "c", 4, 5, 0)}
	for i, c := range []struct {
		e    api.Env
		want bool
	}{
		{of(op("_*_", 2, 0), op("_+_", 3, 0)), true},
		{of(op("_+_", 3, 0), op("_*_", 2, 0)), true}, // in whatever order
		{of(op("_*_", 3, 0), op("_+_", 2, 0)), false},
		{of(op("_*_", 2, 0), op("_+_", 3, 0), op("_*_", 4, 0), op("_+_", 1, 0)), true},
		{of(op("_*_", 4, 0), op("_+_", 3, 0), op("_*_", 2, 0)), false},
		{of(op("_*_", 2, 0), op("_+_", 1, 0), op("_+_", 3, 0)), false},
		{of(op("_*_", 3, 1), op("_+_", 3, 1), op("_+_", 3, 0)), true},
		{of(op("_*_", 3, 1), op("_+_", 3, 0), op("_+_", 3, 1)), false},
		{of(op("_*_", 2, 0)), false},
		{of(op("_+_", 3, 0)), false},
		{of(), false},
	} {
		if tree.Right(c.e, l, n) != c.want {
			t.Errorf("%d", i)
		}
	}
	for _, p := range bad {
		words := lex.All([]byte("a " + strings.ReplaceAll(p, "_", " a ") + " a"))
		for kids := range 4 {
			n := []api.Node{node(3, p, 0, len(words), kids)}
			for i := range kids {
				at := i * (len(words) - 1)
				n = append(n, node(1, "a", at, at+1, 0))
			}
			right(t, of(op(p, 3, 0)), words, n, nil)
		}
	}
	many := of(op("_+_", 3, 0))
	for range 2000 {
		many.Opers = append(many.Opers, op("_-_", 1, 0))
	}
	many.Opers = append(many.Opers, op("_*_", 2, 0), op("_+_", 1, 0))
	if !tree.Right(many, l, n) {
		t.Error("many operators")
	}
}

// P18.2: a part is a name that is not between quotes, of whatever kind; a bracket is a TkSolo; a leaf says its token's text, whatever its bytes.
func TestRightTokens(t *testing.T) {
	e := of(op("_+_", 3, 0), op("[_]", 3, 0), op("if_", 3, 0))
	sum := []api.Node{node(3, "_+_", 0, 3, 2), node(1, "a", 0, 1, 0), node(1, "b", 2, 3, 0)}
	list := []api.Node{node(3, "[_]", 0, 3, 1), node(1, "a", 1, 2, 0)}
	paren := []api.Node{node(2, "", 0, 3, 1), node(1, "a", 1, 2, 0)}
	a, b := api.Token{Kind: 1, Text: "a"}, api.Token{Kind: 1, Text: "b"}
	for _, kind := range append(far(), 6, 7, 8, 9) {
		named := kind == 1 || kind == 2 || kind == 6
		k := func(text string) api.Token { return api.Token{Kind: kind, Text: text, From: 77, To: -3, Code: 11} }
		if tree.Right(e, []api.Token{a, k("+"), b}, sum) != named {
			t.Errorf("a part of kind %d", kind)
		}
		solo := api.Token{Kind: 6, Text: "["}
		if tree.Right(e, []api.Token{solo, a, k("]")}, list) != named || tree.Right(e, []api.Token{k("["), a, {Kind: 6, Text: "]"}}, list) != named {
			t.Errorf("a part of kind %d", kind)
		}
		if tree.Right(e, []api.Token{k("("), a, {Kind: 6, Text: ")"}}, paren) != (kind == 6) || tree.Right(e, []api.Token{{Kind: 6, Text: "("}, a, k(")")}, paren) != (kind == 6) {
			t.Errorf("a bracket of kind %d", kind)
		}
		for _, text := range []string{"a", "+", "if", "[", "", "\xff", "\x00", "(", "_+_", strings.Repeat("a", 1<<12)} {
			for _, name := range []string{text, text + "a", "a", ""} {
				want := name == text && fits.Leaf(e, k(text))
				if tree.Right(e, []api.Token{k(text)}, []api.Node{node(1, name, 0, 1, 0)}) != want {
					t.Errorf("a leaf %.20q of kind %d that says %.20q", name, kind, text)
				}
			}
		}
	}
}

// P18.2: which trees derive what was grown by operators at random: just those that are made from the operators down, with whatever changed.
func TestRightRandom(t *testing.T) {
	good, wrong := 0, 0
	for seed := range uint64(3000) {
		c := rand.New(rand.NewPCG(seed, 182))
		e := anyEnv(c)
		l, n := grown(c, e, 0, 1+c.IntN(3))
		if len(l) > 12 {
			continue
		}
		trees := all(e, l, 0, len(l))
		for _, m := range all(e, l, 0, len(l)) {
			if !right(t, e, l, m, trees) {
				t.Errorf("%+v does not derive %+v", m, l)
			}
		}
		if right(t, e, l, n, trees) && len(n) > 3 {
			good++
		} else if len(n) > 3 {
			wrong++
		}
		s := spoiled(n)
		for range 40 {
			right(t, e, l, s[c.IntN(len(s))], trees)
		}
		twice := spoiled(s[c.IntN(len(s))])
		for range min(20, len(twice)) {
			right(t, e, l, twice[c.IntN(len(twice))], trees)
		}
		other := anyEnv(c)
		right(t, other, l, n, all(other, l, 0, len(l)))
	}
	if good < 200 || wrong < 200 {
		t.Errorf("%d and %d", good, wrong)
	}
}

// P18.2, R1: nodes of all kinds, as they come, over tokens as they come.
func TestRightAny(t *testing.T) {
	e := sums()
	words := lex.All([]byte("a + b ! - ( ) [ ] 'a' X ^ * if then ? : = . \""))
	n := 0
	for seed := range uint64(20000) {
		c := rand.New(rand.NewPCG(seed, 185))
		var l []api.Token
		for range c.IntN(6) {
			l = append(l, words[c.IntN(len(words))])
		}
		var some []api.Node
		for range c.IntN(7) {
			some = append(some, node(1+c.IntN(3), append(patterns, "a", "X", "")[c.IntN(len(patterns)+3)], c.IntN(len(l)+1), c.IntN(len(l)+2), max(c.IntN(4)-1, 0)))
		}
		if len(some) > 0 {
			some[0].From, some[0].To = 0, len(l)
		}
		if end(some, 0) == len(some) {
			n++
		}
		right(t, e, l, some, all(e, l, 0, len(l)))
	}
	if n < 2000 {
		t.Errorf("no more than %d are whole", n)
	}
}

// P18.2, R1: many tokens, deep within brackets and within operators, and beside each other.
func TestRightBig(t *testing.T) {
	e := of(op("_+_", 3, 1), op("_^_", 3, 2), op("-_", 3, 2), op("_!", 3, 1), op("[_]", 3, 0))
	const n = 1 << 15
	word := func(text string) api.Token { return lex.All([]byte(text))[0] }
	repeat := func(text string, n int) []api.Token { return slices.Repeat([]api.Token{word(text)}, n) }
	a, x := word("a"), []api.Token{word("X")}
	for name, c := range map[string]struct {
		l []api.Token
		n func(i int) api.Node // the node that is so deep, but for the leaves at its left
	}{
		"brackets": {slices.Concat(repeat("(", n), x, repeat(")", n)), func(i int) api.Node { return node(2, "", i, 2*n+1-i, 1) }},
		"lists":    {slices.Concat(repeat("[", n), x, repeat("]", n)), func(i int) api.Node { return node(3, "[_]", i, 2*n+1-i, 1) }},
		"prefix":   {slices.Concat(repeat("-", n), x), func(i int) api.Node { return node(3, "-_", i, n+1, 1) }},
		"postfix":  {slices.Concat(x, repeat("!", n)), func(i int) api.Node { return node(3, "_!", 0, n+1-i, 1) }},
	} {
		var l []api.Node
		for i := range n {
			l = append(l, c.n(i))
		}
		at := slices.Index(c.l, x[0])
		l = append(l, node(1, "X", at, at+1, 0))
		deep(t, name, e, c.l, l)
	}
	sum := slices.Concat(slices.Repeat([]api.Token{a, word("+")}, n), x)
	power := slices.Concat(slices.Repeat([]api.Token{a, word("^")}, n), x)
	var left, after []api.Node
	for i := range n {
		left = append(left, node(3, "_+_", 0, 2*(n-i)+1, 2))
		after = append(after, node(3, "_^_", 2*i, 2*n+1, 2), node(1, "a", 2*i, 2*i+1, 0))
	}
	for i := range n {
		left = append(left, node(1, "a", 2*i, 2*i+1, 0))
	}
	deep(t, "left", e, sum, append(left, node(1, "X", 2*n, 2*n+1, 0)))
	deep(t, "right", e, power, append(after, node(1, "X", 2*n, 2*n+1, 0)))
}

// deep holds that a great tree derives its tokens, and does not with a node changed far below.
func deep(t *testing.T, name string, e api.Env, l []api.Token, n []api.Node) {
	t.Helper()
	if !tree.Right(e, l, n) {
		t.Errorf("%s: no tree", name)
	}
	for _, i := range []int{0, 1, len(n) / 2, len(n) - 2, len(n) - 1} {
		for field := range 4 {
			s := slices.Clone(n)
			switch field {
			case 0:
				s[i].Kids++
			case 1:
				s[i].From++
			case 2:
				s[i].To--
			case 3:
				s[i].Name += "b"
			}
			if tree.Right(e, l, s) {
				t.Errorf("%s: %d of node %d", name, field, i)
			}
		}
	}
}

// P18.3: brackets and places are gone; all else is as it was, in trees and in what is none.
func TestBare(t *testing.T) {
	for _, c := range []struct{ t, want []api.Node }{
		{nil, nil},
		{[]api.Node{node(1, "a", 3, 4, 0)}, []api.Node{node(1, "a", 0, 0, 0)}},
		{[]api.Node{node(2, "", 0, 3, 1), node(1, "a", 1, 2, 0)}, []api.Node{node(1, "a", 0, 0, 0)}},
		{[]api.Node{node(2, "", 0, 3, 1)}, nil},
		{[]api.Node{node(2, "", 0, 3, 1), node(2, "x", 0, 3, 7)}, nil},
		{[]api.Node{node(3, "_+_", 0, 5, 2), node(2, "", 0, 3, 1), node(1, "b", 1, 2, 0), node(1, "X", 4, 5, 0), node(2, "", 9, 9, 0)}, []api.Node{node(3, "_+_", 0, 0, 2), node(1, "b", 0, 0, 0), node(1, "X", 0, 0, 0)}},
		{[]api.Node{node(0, "x", -1, -2, -3), node(4, "(", 1, 2, 3), node(-2, "_!", 1, 2, math.MinInt)}, []api.Node{node(0, "x", 0, 0, -3), node(4, "(", 0, 0, 3), node(-2, "_!", 0, 0, math.MinInt)}},
	} {
		if got := tree.Bare(c.t); !slices.Equal(got, c.want) {
			t.Errorf("Bare(%+v) = %+v", c.t, got)
		}
	}
	for seed := range uint64(2000) {
		c := rand.New(rand.NewPCG(seed, 183))
		l := make([]api.Node, c.IntN(20))
		for i := range l {
			l[i] = node(1+c.IntN(3), patterns[c.IntN(len(patterns))], c.IntN(9), c.IntN(9), c.IntN(4)-1)
			if c.IntN(9) == 0 {
				l[i] = node(far()[c.IntN(len(far()))], "", far()[c.IntN(len(far()))], far()[c.IntN(len(far()))], far()[c.IntN(len(far()))])
			}
		}
		before, want := slices.Clone(l), slices.Clone(l)
		for i := range want {
			want[i].From, want[i].To = 0, 0
		}
		want = slices.DeleteFunc(want, func(n api.Node) bool { return n.Kind == 2 })
		if got := tree.Bare(l); !slices.Equal(got, want) || !slices.Equal(l, before) {
			t.Errorf("Bare(%+v) = %+v", before, got)
		}
	}
}

// P18.4: each subtree of a tree that derives its tokens derives its own, when both are counted from where these begin.
func TestSubtrees(t *testing.T) {
	n := 0
	for seed := range uint64(3000) {
		c := rand.New(rand.NewPCG(seed, 184))
		e := anyEnv(c)
		l, some := grown(c, e, 0, 1+c.IntN(5))
		if !tree.Right(e, l, some) {
			continue
		}
		for i, top := range some {
			sub := slices.Clone(some[i:tree.End(some, i)])
			for k := range sub {
				sub[k].From -= top.From
				sub[k].To -= top.From
			}
			if !tree.Right(e, l[top.From:top.To], sub) {
				t.Errorf("%+v of %+v", sub, some)
			}
			if i > 0 && tree.Right(e, l, sub) {
				t.Errorf("%+v derives more than its own", sub)
			}
			n++
		}
	}
	if n < 3000 {
		t.Errorf("no more than %d", n)
	}
}

// R6, R7: a second call tells the same, whatever became of what was told before and of what was asked between.
func TestAgain(t *testing.T) {
	e, l := sums(), lex.All([]byte("(a + b) * [c]"))
	n := []api.Node{node(3, "_*_", 0, 9, 2), node(2, "", 0, 5, 1), node(3, "_+_", 1, 4, 2), node(1, "a", 1, 2, 0), node(1, "b", 3, 4, 0), node(3, "[_]", 6, 9, 1), node(1, "c", 7, 8, 0)}
	before := slices.Clone(n)
	for range 3 {
		has, bare := tree.Kids(n, 0), tree.Bare(n)
		if !slices.Equal(has, []int{1, 5}) || len(bare) != 6 || bare[1] != node(3, "_+_", 0, 0, 2) || !tree.Right(e, l, n) || tree.End(n, 1) != 5 {
			t.Errorf("%d, %+v", has, bare)
		}
		for i := range has {
			has[i] = -7
		}
		for i := range bare {
			bare[i] = node(9, "gone", 9, 9, 9)
		}
		_, _ = append(has, 1, 2, 3), append(bare, api.Node{}, api.Node{})
		if tree.Right(env.New(), l, n) || tree.Right(e, l[:8], n) || tree.Right(e, l, n[1:]) {
			t.Error("another one")
		}
		if !slices.Equal(n, before) {
			t.Errorf("%+v", n)
		}
	}
	plain := []api.Node{node(1, "a", 0, 0, 0)} // one that Bare leaves as it is
	tree.Bare(plain)[0].Name = "b"
	if plain[0].Name != "a" {
		t.Error("shared")
	}
}
