package fits_test

import (
	"fmt"
	"math"
	"math/rand/v2"
	"slices"
	"strings"
	"testing"

	"tmesis/api"
	"tmesis/env"
	"tmesis/fits"
	"tmesis/graph"
	"tmesis/lex"
	"tmesis/shape"
)

// ladder is the rows that no edge has changed.
var ladder = api.Rows{0, 0, 0b10, 0b110, 0b1110, 0b11110, 0, 0, 0, 0}

// good is patterns that have a shape: with holes at both ends, at the right one, at the left one, and at none.
var good = []string{
	"_+_", "_?_:_", "_a_b_c_d_",
	"-_", "if_then_else_", "[_]_",
	"_!", "_[_]", "_a_b_c_d",
	"[_]", "a_a", "|_|",
}

// bad is patterns that have none.
var bad = []string{"", "_", "__", "a", "+", "a__b", "_a__", "(_)", "_,_", "_:-_", "_._", "_X_", "_1_", "_'a'_", "_a b_", " _a_", "_a_ ", "_a_b_c_d_e_", "_a_\xff_", "\x00", "_" + strings.Repeat("a", 40) + "_"}

// words is what tokens say, and what parts are named: some of them are alike but for a byte.
var words = []string{
	"+", "++", "-", "!", "?", ":", "if", "then", "else", "If", "i", "a", "b", "A", "ab", "[", "]", "|", "{", "\xc3\xa9", "", "_", "_+_", "7", "07", "it's", " ", "+ ", " +",
	"(", ")", ",", ".", ":-", "\xff", "\x00", "\xc3", "a\x00", strings.Repeat("a", 38), strings.Repeat("a", 39), strings.Repeat("a", 40),
}

// far is numbers of all sizes: small ones, their opposites, and those that go round to them.
func far() []int {
	out := []int{math.MinInt, math.MinInt + 1, math.MinInt + 3, math.MaxInt, math.MaxInt - 1, 1<<31 - 1, 1 << 31, -1 << 31, 1 << 32, 1<<32 + 1, 1<<32 + 2, 1<<32 + 3, 1 << 62, 63, 64, 65, 127, 128, 255, 256, 257, 258, 259, 260, 261, 1<<16 + 3}
	for i := -12; i <= 12; i++ {
		out = append(out, i)
	}
	return out
}

// op is an operator.
func op(pattern string, group, assoc int) api.Oper {
	return api.Oper{Pattern: pattern, Group: group, Assoc: assoc}
}

// of is an env of the ladder with operators of these patterns, as they come.
func of(patterns ...string) api.Env {
	e := api.Env{Rows: ladder}
	for i, p := range patterns {
		e.Opers = append(e.Opers, op(p, i%9+1, 0))
	}
	return e
}

// tighter tells by division whether h is tighter than g: below 0 a row is its opposite less one, turned over.
func tighter(r api.Rows, g, h int) bool {
	if g < 0 || g > 9 || h < 0 || h > 9 {
		return false
	}
	row, turned := r[g], r[g] < 0
	if turned {
		row = -(row + 1)
	}
	for range h {
		row /= 2
	}
	return (row%2 == 1) != turned
}

// wanted is what Fits has to tell of operators of which is known whether they have shapes: a row of reasons for and against, told from the bytes at the ends of the patterns.
func wanted(r api.Rows, o, k api.Oper, right, shapes bool) bool {
	hole, leans := strings.HasPrefix(o.Pattern, "_"), 1
	if right {
		hole, leans = strings.HasSuffix(o.Pattern, "_"), 2
	}
	if !shapes || !hole {
		return false
	}
	if strings.Trim(k.Pattern, "_") == k.Pattern {
		return true
	}
	if k.Group != o.Group {
		return tighter(r, o.Group, k.Group)
	}
	return o.Assoc == leans && k.Assoc == leans || tighter(r, k.Group, k.Group)
}

// fit holds Fits of o and k, both ways and at both ends, against what it has to tell, and tells how often they do.
func fit(t *testing.T, r api.Rows, o, k api.Oper, shapes bool) int {
	t.Helper()
	n := 0
	for _, right := range []bool{false, true} {
		for _, c := range [][2]api.Oper{{o, k}, {k, o}} {
			got := fits.Fits(r, c[0], c[1], right)
			if got != wanted(r, c[0], c[1], right, shapes) {
				t.Errorf("Fits(%b, %.300s, right %t) = %t", r, fmt.Sprint(c), right, got)
			}
			if got {
				n++
			}
		}
	}
	return n
}

// has tells whether a pattern has a shape.
func has(pattern string) bool {
	_, e := shape.Of(pattern)
	return e == api.OK
}

// stands tells whether some operator of e has a part of that name: what stands between its marks, if it has a shape.
func stands(e api.Env, name string) bool {
	for _, o := range e.Opers {
		if has(o.Pattern) && slices.Contains(strings.FieldsFunc(o.Pattern, func(r rune) bool { return r == '_' }), name) {
			return true
		}
	}
	return false
}

// leaf is what Leaf has to tell.
func leaf(e api.Env, t api.Token) bool {
	switch t.Kind {
	case 3, 4, 5:
		return true
	case 1, 2:
		return !stands(e, t.Text)
	}
	return false
}

// part is what Part has to tell.
func part(t api.Token, name string) bool {
	return (t.Kind == 1 || t.Kind == 2 || t.Kind == 6) && strings.Compare(t.Text, name) == 0
}

// token holds Leaf of k in e, and Part of k and each of these names, against what they have to tell.
func token(t *testing.T, e api.Env, k api.Token, names ...string) {
	t.Helper()
	if got := fits.Leaf(e, k); got != leaf(e, k) {
		t.Errorf("Leaf(%.300s, %.99q) = %t, of kind %d", fmt.Sprint(e.Opers), k.Text, got, k.Kind)
	}
	for _, name := range names {
		if got := fits.Part(k, name); got != part(k, name) {
			t.Errorf("Part(%.99q, %.99q) = %t, of kind %d", k.Text, name, got, k.Kind)
		}
	}
}

// some is rows of all kinds: bits at random, few of them or many, among the groups alone or all 64.
func some(c *rand.Rand) api.Rows {
	var r api.Rows
	size, share := []int{10, 10, 64}[c.IntN(3)], 1+c.IntN(20)
	for g := range r {
		for h := range size {
			if c.IntN(20) < share && c.IntN(2) == 0 {
				r[g] |= 1 << h
			}
		}
	}
	return r
}

// grown is rows that come from graph.Start, by so many edges at random, some of which may not be.
func grown(c *rand.Rand, edges int) api.Rows {
	r := graph.Start()
	for range edges {
		if next, e := graph.Edge(r, c.IntN(10), c.IntN(11)); e == api.OK {
			r = next
		}
	}
	return r
}

// anyOper is an operator of any kind: most may be, some have no shape, or no group, or no side.
func anyOper(c *rand.Rand) api.Oper {
	o := op(good[c.IntN(len(good))], 1+c.IntN(9), c.IntN(3))
	switch c.IntN(20) {
	case 0:
		o.Pattern = bad[c.IntN(len(bad))]
	case 1:
		o.Group = far()[c.IntN(len(far()))]
	case 2:
		o.Assoc = far()[c.IntN(len(far()))]
	}
	return o
}

// P17.1: the chapter's examples, and each reason for and against, alone.
func TestFitsTable(t *testing.T) {
	edged, _ := graph.Edge(ladder, 7, 3)
	self := api.Rows{6: 1 << 6}
	for _, c := range []struct {
		r           api.Rows
		o, k        api.Oper
		left, right bool
	}{
		{ladder, op("_+_", 3, 1), op("_*_", 2, 1), true, true},  // the chapter's
		{ladder, op("_+_", 3, 1), op("_+_", 3, 1), true, false}, // likewise
		{ladder, op("_+_", 3, 2), op("_+_", 3, 2), false, true},
		{ladder, op("_+_", 3, 0), op("_+_", 3, 0), false, false},
		{ladder, op("_+_", 3, 1), op("_-_", 3, 2), false, false}, // one leans left, the other one right
		{ladder, op("_+_", 3, 2), op("_-_", 3, 1), false, false},
		{ladder, op("_+_", 3, 0), op("_-_", 3, 1), false, false}, // one leans, the other one does not
		{ladder, op("_+_", 3, 1), op("_-_", 3, 0), false, false},
		{ladder, op("_+_", 3, 2), op("_-_", 3, 0), false, false},
		{ladder, op("_+_", 3, 0), op("_-_", 3, 2), false, false},
		{ladder, op("_+_", 3, 1), op("_-_", 2, 2), true, true}, // of another group how they lean is not asked
		{ladder, op("_+_", 3, 1), op("_-_", 4, 1), false, false},
		{ladder, op("_*_", 2, 1), op("_+_", 3, 1), false, false},
		{ladder, op("_+_", 7, 1), op("_*_", 2, 1), false, false}, // no edge
		{ladder, op("_+_", 2, 1), op("_*_", 7, 1), false, false},
		{edged, op("_+_", 7, 1), op("_*_", 2, 1), true, true}, // an edge, by way of 3
		{edged, op("_*_", 2, 1), op("_+_", 7, 1), false, false},
		{edged, op("_+_", 7, 1), op("_*_", 4, 1), false, false},
		{self, op("_+_", 6, 0), op("_+_", 6, 0), true, true},  // a group that is tighter than itself
		{self, op("_+_", 6, 1), op("_-_", 6, 2), true, true},  // likewise
		{ladder, op("_+_", 3, 0), op("-_", 2, 0), true, true}, // a hole at one end of the inner one
		{ladder, op("_+_", 3, 0), op("_!", 2, 0), true, true},
		{ladder, op("_+_", 2, 0), op("-_", 3, 0), false, false}, // even if that end is turned away
		{ladder, op("_+_", 2, 0), op("_!", 3, 0), false, false},
		{ladder, op("_+_", 3, 2), op("-_", 3, 2), false, true},
		{ladder, op("_+_", 3, 1), op("_!", 3, 1), true, false},
		{ladder, op("-_", 3, 2), op("-_", 3, 2), false, true}, // a hole at one end of the outer one
		{ladder, op("_!", 3, 1), op("_!", 3, 1), true, false},
		{ladder, op("-_", 3, 0), op("_*_", 2, 0), false, true},
		{ladder, op("_!", 3, 0), op("_*_", 2, 0), true, false},
		{ladder, op("[_]", 9, 0), op("_*_", 2, 0), false, false}, // no hole at an end of the outer one
		{ladder, op("[_]", 9, 0), op("{_}", 9, 0), false, false},
		{ladder, op("_+_", 1, 0), op("[_]", 9, 0), true, true}, // none of the inner one: whatever its group
		{ladder, op("_+_", 3, 0), op("[_]", 3, 0), true, true},
		{ladder, op("-_", 1, 2), op("a_a", 5, 0), false, true},
		{ladder, op("_!", 1, 1), op("a_a", 5, 0), true, false},
		{ladder, op("_+_", 77, 0), op("[_]", -1, 9), true, true},
		{ladder, op("_+_", 77, 1), op("_-_", 77, 1), true, false}, // groups that there are not are the same too
		{ladder, op("_+_", -5, 2), op("_-_", -5, 2), false, true},
		{ladder, op("_+_", 3, 3), op("_-_", 3, 3), false, false}, // lean to no side
		{ladder, op("_+_", 3, -1), op("_-_", 3, -1), false, false},
		{api.Rows{}, op("_+_", 3, 1), op("_*_", 2, 1), false, false}, // no rows
		{ladder, op("_+_", 3, 1), op("b", 2, 1), false, false},       // no shape
		{ladder, op("+", 3, 1), op("_*_", 2, 1), false, false},
		{ladder, op("__", 3, 1), op("[_]", 2, 1), false, false},
		{ladder, op("_+_", 3, 1), op("", 2, 1), false, false},
		{ladder, op("_(_", 3, 1), op("_*_", 2, 1), false, false},
		{ladder, op("_+_", 3, 1), op("_,_", 2, 1), false, false},
		{ladder, op("_+_", 3, 1), op("(_)", 2, 1), false, false},
		{ladder, api.Oper{}, api.Oper{}, false, false},
	} {
		left, right := fits.Fits(c.r, c.o, c.k, false), fits.Fits(c.r, c.o, c.k, true)
		if left != c.left || right != c.right {
			t.Errorf("%+v in %+v: %t at the left end, %t at the right one", c.k, c.o, left, right)
		}
	}
}

// P17.1: operators of each shape, and of none, with all groups and associativities.
func TestFitsAll(t *testing.T) {
	edged, _ := graph.Edge(ladder, 6, 3)
	edged, _ = graph.Edge(edged, 2, 8)
	patterns := append([]string{"_+_", "_a_b_c_d_", "-_", "_!", "[_]"}, "", "_", "a", "_,_", "(_)")
	n := 0
	for _, p := range patterns {
		for _, q := range patterns {
			shapes := has(p) && has(q)
			for i := range 9 * 9 * 3 * 3 {
				n += fit(t, edged, op(p, i%9+1, i/81%3), op(q, i/9%9+1, i/243), shapes)
			}
		}
	}
	if n < 10000 {
		t.Errorf("no more than %d that fit", n)
	}
}

// P17.1, R1: groups and associativities of all sizes.
func TestFitsNumbers(t *testing.T) {
	rows := []api.Rows{ladder, {-1, -1, -1, -1, -1, -1, -1, -1, -1, -1}}
	for _, r := range rows {
		for _, g := range far() {
			for _, h := range far() {
				fit(t, r, op("_+_", g, 1), op("_-_", h, 1), true)
				fit(t, r, op("-_", g, 2), op("_+_", h, 2), true)
				fit(t, r, op("_!", g, 0), op("[_]", h, 0), true)
				fit(t, r, op("_!", 3, g), op("_+_", 3, h), true)
				fit(t, r, op("_!", 5, g), op("_+_", 4, h), true)
				fit(t, r, op("_+", g, 1), op("+", h, 1), false)
			}
		}
	}
}

// P17.1: all rows of one bit, and all that have each bit but one, with all groups.
func TestFitsBits(t *testing.T) {
	for row := range 10 {
		for bit := range 64 {
			var one, others api.Rows
			one[row] = 1 << bit
			for i := range others {
				others[i] = ^one[i]
			}
			for i := range 13 * 13 {
				g, h := i%13-1, i/13-1
				here := row == g && bit == h
				known := 0 <= min(g, h) && max(g, h) <= 9
				o, k := op("_+_", g, 0), op("-_", h, 0)
				if fits.Fits(one, o, k, true) != (known && here) || fits.Fits(others, o, k, false) != (known && !here) {
					t.Errorf("bit %d of row %d: %d in %d", bit, row, h, g)
				}
			}
		}
	}
}

// P17.1: operators of all kinds, in rows of all kinds.
func TestFitsRandom(t *testing.T) {
	n := 0
	for seed := range uint64(20000) {
		c := rand.New(rand.NewPCG(seed, 171))
		r, o, k := some(c), anyOper(c), anyOper(c)
		if c.IntN(3) == 0 {
			k.Group = o.Group
		}
		n += fit(t, r, o, k, !slices.Contains(bad, o.Pattern) && !slices.Contains(bad, k.Pattern))
	}
	if n < 5000 || n > 60000 {
		t.Errorf("%d that fit", n)
	}
}

// P17.1: whether an operator has a shape is what shape tells, whatever the bytes, and however many.
func TestFitsPatterns(t *testing.T) {
	check := func(p string) {
		t.Helper()
		fit(t, ladder, op(p, 3, 1), op("_+_", 3, 1), has(p))
		fit(t, ladder, op(p, 2, 2), op("[_]", 4, 0), has(p))
	}
	for _, p := range append(good, bad...) {
		if has(p) != slices.Contains(good, p) {
			t.Errorf("%q", p)
		}
		check(p)
	}
	for i := range 256 {
		for _, form := range []string{"X_", "_X", "_X_", "a_X", "Xa_", "_aX_", "_a_X_b"} {
			check(strings.ReplaceAll(form, "X", string([]byte{byte(i)})))
		}
	}
	for n := range 45 {
		check("_" + strings.Repeat("a", n) + "_")
		check(strings.Repeat("a", n) + "_")
		check("_" + strings.Repeat("+", n))
	}
	for _, each := range []string{"_", "a", "a_", "_a", "(", "\x00", "'"} {
		check(strings.Repeat(each, 1<<17))
	}
}

// P17.2: the three kinds that may be a part, and the bytes of which a text is.
func TestPartTable(t *testing.T) {
	for kind, want := range []bool{false, true, true, false, false, false, true, false, false, false} {
		for _, text := range words {
			for _, name := range words {
				k := api.Token{Kind: kind, From: 3, To: 3 + len(text), Text: text, Code: api.Errno(len(name))}
				if got := fits.Part(k, name); got != (want && text == name) {
					t.Errorf("Part(%q, %q) = %t, of kind %d", text, name, got, kind)
				}
			}
		}
	}
	long := strings.Repeat("a", 1<<17)
	for _, name := range []string{long, long + "a", long + "\x00", long[1:], "a", ""} {
		token(t, of(), api.Token{Kind: 1, Text: long}, name)
	}
}

// P17.2: which tokens may stand alone, of each kind, where they are a part and where they are none.
func TestLeafTable(t *testing.T) {
	e := of("_+_", "if_then_", "[_]", "_!", "\xc3\xa9_")
	for _, c := range []struct {
		text string
		// kinds has the kinds of which a token that says so may stand alone.
		kinds string
	}{
		{"a", "12345"}, {"-", "12345"}, {"then_", "12345"}, {"_", "12345"}, {"", "12345"}, {"++", "12345"}, {"If", "12345"}, {"i", "12345"}, {"f", "12345"}, {"\xc3", "12345"}, {"_+_", "12345"}, {"{", "12345"}, {":-", "12345"}, {",", "12345"}, {"(", "12345"}, {"X", "12345"}, {"7", "12345"}, {" if", "12345"},
		{"+", "345"}, {"if", "345"}, {"then", "345"}, {"[", "345"}, {"]", "345"}, {"!", "345"}, {"\xc3\xa9", "345"},
	} {
		for kind := range 10 {
			k := api.Token{Kind: kind, Text: c.text}
			want := strings.Contains(c.kinds, string(rune('0'+kind)))
			if got := fits.Leaf(e, k); got != want {
				t.Errorf("Leaf(%q) = %t, of kind %d", c.text, got, kind)
			}
			if got := fits.Leaf(env.New(), k); got != (1 <= kind && kind <= 5) {
				t.Errorf("without operators: Leaf(%q) = %t, of kind %d", c.text, got, kind)
			}
		}
	}
}

// P17.2: a name is one of any operator, wherever it stands in it and that stands among the others, whatever its group; one of no shape has none.
func TestLeafEnvs(t *testing.T) {
	some := []string{"_-_", "b_", "_c", "{_}"}
	for _, p := range []string{"x_", "_x", "_x_", "x_y", "y_x", "y_x_z", "_y_z_w_x", "_y_z_x_w_", "x_x"} {
		for at := range len(some) + 1 {
			for _, kind := range []int{1, 2} {
				e := of(slices.Insert(slices.Clone(some), at, p)...)
				e.Opers[at].Group, e.Opers[at].Assoc = at*100-150, at-2
				if fits.Leaf(e, api.Token{Kind: kind, Text: "x"}) || !fits.Leaf(e, api.Token{Kind: kind, Text: "v"}) {
					t.Errorf("%+v", e.Opers)
				}
			}
		}
	}
	for _, p := range bad {
		for _, word := range append(words, strings.Trim(p, "_"), "c", "d", "e", "1", "X") {
			for kind := 1; kind <= 5; kind++ {
				if !fits.Leaf(of(p), api.Token{Kind: kind, Text: word}) {
					t.Errorf("%q with an operator %q", word, p)
				}
			}
		}
	}
	many := api.Env{Rows: ladder}
	for range 2000 {
		many.Opers = append(many.Opers, op("_+_", 1, 1))
	}
	many.Opers = append(many.Opers, op("_last", 1, 1))
	for _, word := range []string{"+", "last", "first", strings.Repeat("+", 1<<17)} {
		token(t, many, api.Token{Kind: 1, Text: word}, word)
	}
}

// P17.2, R1: kinds of all sizes, with each byte as a text.
func TestTokenNumbers(t *testing.T) {
	e := of("_+_", "a_", "[_]")
	for _, kind := range far() {
		for i := range 256 {
			text := string([]byte{byte(i)})
			token(t, e, api.Token{Kind: kind, From: -1, To: math.MinInt, Text: text, Code: api.Errno(kind)}, text, "+", "a", "", text+text)
		}
	}
}

// P17.2: tokens as they stand in texts: each is a part, or may stand alone, or neither; a text between quotes is no part, whatever it says.
func TestTokensOfTexts(t *testing.T) {
	e := of("_+_", "if_then_", "[_]")
	for _, c := range []struct{ text, told string }{
		// p tells a part of its own text, l a leaf, b both, - neither.
		{"X + 'a'.", "lpl-"}, {"if a then 12.", "pbpl-"}, {"'if' + \"", "lp-"}, {"[b,(c)].", "pbppbpp-"}, {"a:-b - 'then'.", "bbbbl-"}, {"_ + _x.", "lpl-"}, {"++ + -.", "bpb"}, {"++ + - .", "bpb-"}, {"{ | }.", "ppp-"}, {"", ""}, {"'+' '[' ''.", "lll-"},
	} {
		var told strings.Builder
		for _, k := range lex.All([]byte(c.text)) {
			is := 0
			if fits.Part(k, k.Text) {
				is++
			}
			if fits.Leaf(e, k) {
				is += 2
			}
			told.WriteByte("-plb"[is])
			token(t, e, k, append(words, k.Text)...)
		}
		if told.String() != c.told {
			t.Errorf("%q: %s", c.text, told.String())
		}
	}
}

// P17.2: what is a part of no operator is a leaf; tokens and envs of all kinds.
func TestTokenRandom(t *testing.T) {
	for seed := range uint64(3000) {
		c := rand.New(rand.NewPCG(seed, 172))
		e := api.Env{Rows: some(c)}
		for range c.IntN(20) {
			e.Opers = append(e.Opers, anyOper(c))
		}
		before := slices.Clone(e.Opers)
		for range 10 {
			token(t, e, api.Token{Kind: c.IntN(10), Text: words[c.IntN(len(words))]}, words[c.IntN(len(words))])
		}
		if !slices.Equal(e.Opers, before) {
			t.Errorf("%+v has become %+v", before, e.Opers)
		}
	}
}

// P17.3: of all two operators not each fits the other at the ends that meet, and what fits what fits, fits; rows are those behind edges at random.
func TestFollows(t *testing.T) {
	var all []api.Oper
	for _, p := range []string{"_+_", "-_", "_!", "[_]", "a"} {
		for _, g := range []int{1, 3, 4, 6, 7, 9} {
			for a := range 3 {
				all = append(all, op(p, g, a))
			}
		}
	}
	all = append(all, op("_+_", 0, 1), op("_-_", 10, 2), op("-_", 10, 2), op("_!", -1, 1))
	for seed := range uint64(12) {
		follows(t, grown(rand.New(rand.NewPCG(seed, 173)), int(seed)*2), all)
	}
}

// follows holds what follows for each two and three of these operators in r.
func follows(t *testing.T, r api.Rows, all []api.Oper) {
	t.Helper()
	n := len(all)
	var does [2][][]bool
	for side := range does {
		does[side] = make([][]bool, n)
		for i := range n {
			for k := range n {
				does[side][i] = append(does[side][i], fits.Fits(r, all[i], all[k], side == 1))
			}
		}
	}
	for i := range n {
		for k := range n {
			if does[1][i][k] && does[0][k][i] {
				t.Errorf("%b: %+v and %+v fit each other", r, all[i], all[k])
			}
			for m := range n {
				for side := range does {
					if does[side][i][k] && does[side][k][m] && !does[side][i][m] {
						t.Errorf("%b: %+v in %+v in %+v, at end %d", r, all[m], all[k], all[i], side)
					}
				}
			}
		}
	}
}

// R6, R7: a second call tells the same, whatever was asked between, and nothing that is handed in has changed.
func TestAgain(t *testing.T) {
	e := of("_+_", "if_then_", "[_]", "_!", "_")
	before := slices.Clone(e.Opers)
	for range 3 {
		for _, p := range good {
			for _, q := range append(bad, good...) {
				fit(t, ladder, op(p, 3, 1), op(q, 2, 1), has(q))
				fit(t, ladder, op(p, 3, 2), op(q, 3, 2), has(q))
			}
		}
		for kind := range 10 {
			for _, word := range words {
				token(t, e, api.Token{Kind: kind, Text: word}, words...)
			}
		}
	}
	if !slices.Equal(e.Opers, before) || e.Rows != ladder {
		t.Errorf("%+v", e)
	}
}
