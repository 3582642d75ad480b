package env_test

import (
	"math"
	"math/rand/v2"
	"slices"
	"sort"
	"strings"
	"testing"

	"tmesis/api"
	"tmesis/env"
	"tmesis/graph"
	"tmesis/oper"
	"tmesis/shape"
)

// ladder is the rows that no edge has changed.
var ladder = api.Rows{0, 0, 0b10, 0b110, 0b1110, 0b11110, 0, 0, 0, 0}

// good is patterns that have a shape, some of which share parts, begin alike, or are near to one another in order.
var good = []string{
	"_+_", "_+", "+_", "+_+", "_++_", "_-_", "_*_", "_=_", "_=.._",
	"if_then_", "if_then_else_", "_if_", "_if_else_", "then_", "_else",
	"a_", "_a", "_a_", "a_a", "_a_b_", "a_b_c_d", "_a_b_a_b_", "aB_", "b_", "ab_",
	"[_]", "[_", "_]", "{_}", "|_|", "_[_]", "\xc3\xa9_", "_\xc3\xa9_", "\xf0\x9f\x98\x80_a",
	strings.Repeat("a", 39) + "_", "_" + strings.Repeat("+", 38) + "_",
}

// bad is patterns that have none.
var bad = []string{"", "_", "__", "a", "+", "a__b", "_a__", "(_)", "_,_", "_:-_", "_._", "_X_", "_1", "'a'_", "a b_", " a_", "_a_b_c_d_e", "a_\xff", "\x00", "_" + strings.Repeat("a", 40)}

// names is words that are parts, and ones that are not: patterns, pieces of parts, and none.
var names = []string{
	"+", "++", "-", "*", "=", "=..", "if", "then", "else", "a", "b", "c", "d", "aB", "ab", "[", "]", "{", "}", "|", "\xc3\xa9", "\xf0\x9f\x98\x80",
	"", "_", "_+_", "a_", "if_then_", "i", "f", ".", "(", ")", ",", ":-", "A", "B", "1", "'a'", " ", "a ", " a", "\xc3", "\xa9", "\xff", "\x00", "%",
	strings.Repeat("a", 39), strings.Repeat("a", 38), strings.Repeat("a", 40), strings.Repeat("+", 38), strings.Repeat("+", 37),
}

// far is numbers of all sizes: those that the document names, their neighbours and opposites, and those that go round to them.
func far() []int {
	out := []int{math.MinInt, math.MinInt + 3, math.MaxInt, math.MaxInt - 1, 1<<31 - 1, 1 << 31, -1 << 31, 1 << 32, 1<<32 + 3, 1 << 62, 255, 256, 259, 1<<16 + 3}
	for i := -12; i <= 12; i++ {
		out = append(out, i)
	}
	return out
}

// same tells whether a and b have the same operators, in order, and the same rows.
func same(a, b api.Env) bool {
	return a.Rows == b.Rows && slices.Equal(a.Opers, b.Opers)
}

// copied is e, sharing nothing with it.
func copied(e api.Env) api.Env {
	return api.Env{Opers: append([]api.Oper{}, e.Opers...), Rows: e.Rows}
}

// put is l with o where it belongs, told from the end of l; room is whether one more may be.
func put(l []api.Oper, o api.Oper, room bool) ([]api.Oper, api.Errno) {
	at := len(l)
	for i := len(l) - 1; i >= 0; i-- {
		if strings.Compare(l[i].Pattern, o.Pattern) >= 0 {
			at = i
		}
	}
	ahead, behind := l[:at:at], l[at:]
	if len(behind) > 0 && behind[0].Pattern == o.Pattern {
		return append(append(ahead, o), behind[1:]...), 0
	}
	if !room {
		return nil, 5
	}
	return append(append(ahead, o), behind...), 0
}

// added is what Add has to tell.
func added(e api.Env, o api.Oper) (api.Env, api.Errno) {
	if code := oper.May(o); code != 0 {
		return api.Env{}, code
	}
	l, code := put(e.Opers, o, len(e.Opers) < 16)
	if code != 0 {
		return api.Env{}, code
	}
	return api.Env{Opers: l, Rows: e.Rows}, 0
}

// dropped is what Drop has to tell.
func dropped(e api.Env, pattern string) (api.Env, api.Errno) {
	for i, o := range e.Opers {
		if o.Pattern == pattern {
			return api.Env{Opers: append(append([]api.Oper{}, e.Opers[:i]...), e.Opers[i+1:]...), Rows: e.Rows}, 0
		}
	}
	return api.Env{}, 2
}

// edged is what Edge has to tell.
func edged(e api.Env, g, h int) (api.Env, api.Errno) {
	rows, code := graph.Edge(e.Rows, g, h)
	if code != 0 {
		return api.Env{}, code
	}
	return api.Env{Opers: e.Opers, Rows: rows}, 0
}

// pieces is the parts of a pattern: what stands between its marks, if it has a shape.
func pieces(pattern string) []string {
	if _, code := shape.Of(pattern); code != 0 {
		return nil
	}
	return strings.FieldsFunc(pattern, func(r rune) bool { return r == '_' })
}

// entries is what Entry has to tell.
func entries(e api.Env, name string) []api.Entry {
	var out []api.Entry
	for _, o := range e.Opers {
		has, row := false, 0
		for _, part := range pieces(o.Pattern) {
			has = has || part == name
		}
		for g, bits := range e.Rows {
			if g == o.Group {
				row = bits
			}
		}
		if has {
			out = append(out, api.Entry{Oper: o, Row: row})
		}
	}
	return out
}

// unlike is what Unique has to tell: whether of all parts, in order, no two neighbours are alike.
func unlike(e api.Env) bool {
	var all []string
	for _, o := range e.Opers {
		all = append(all, pieces(o.Pattern)...)
	}
	sort.Strings(all)
	for i := range all {
		if i > 0 && all[i] == all[i-1] {
			return false
		}
	}
	return true
}

// told holds what a call has told against what it had to tell, and e against what it was ahead of the call.
func told(t *testing.T, call string, e, before, got, want api.Env, code, wanted api.Errno) {
	t.Helper()
	if !same(got, want) || code != wanted {
		t.Errorf("%s of %+v: %+v, %d, not %+v, %d", call, before, got, code, want, wanted)
	}
	if !same(e, before) {
		t.Errorf("%s has made %+v of %+v", call, e, before)
	}
}

// add, drop and edge hold a call against what it has to tell, and tell what it told.
func add(t *testing.T, e api.Env, o api.Oper) (api.Env, api.Errno) {
	t.Helper()
	before := copied(e)
	want, wanted := added(before, o)
	got, code := env.Add(e, o)
	told(t, "Add", e, before, got, want, code, wanted)
	return got, code
}

func drop(t *testing.T, e api.Env, pattern string) (api.Env, api.Errno) {
	t.Helper()
	before := copied(e)
	want, wanted := dropped(before, pattern)
	got, code := env.Drop(e, pattern)
	told(t, "Drop", e, before, got, want, code, wanted)
	return got, code
}

func edge(t *testing.T, e api.Env, g, h int) (api.Env, api.Errno) {
	t.Helper()
	before := copied(e)
	want, wanted := edged(before, g, h)
	got, code := env.Edge(e, g, h)
	told(t, "Edge", e, before, got, want, code, wanted)
	return got, code
}

// asked holds Entry of e and name, and Unique of e, against what they have to tell.
func asked(t *testing.T, e api.Env, name string) {
	t.Helper()
	before := copied(e)
	if got, want := env.Entry(e, name), entries(e, name); !slices.Equal(got, want) {
		t.Errorf("Entry(%+v, %q) = %+v, not %+v", e, name, got, want)
	}
	if got := env.Unique(e); got != unlike(e) {
		t.Errorf("Unique(%+v) = %t", e, got)
	}
	if !env.Same(e, before, name) {
		t.Errorf("%+v is not the same as itself for %q", e, name)
	}
	if !same(e, before) {
		t.Errorf("%+v has become %+v", before, e)
	}
}

// anyOper is an operator of any kind: most may be, some have no shape, or no group, or no side.
func anyOper(c *rand.Rand) api.Oper {
	o := api.Oper{Pattern: good[c.IntN(len(good))], Group: 1 + c.IntN(9), Assoc: c.IntN(3)}
	switch c.IntN(16) {
	case 0:
		o.Pattern = bad[c.IntN(len(bad))]
	case 1:
		o.Group = far()[c.IntN(len(far()))]
	case 2:
		o.Assoc = far()[c.IntN(len(far()))]
	}
	return o
}

// anyEnv is an env of any kind, which need not come from New: its operators need not rise, nor be each once, nor be few.
func anyEnv(c *rand.Rand) api.Env {
	var e api.Env
	for range c.IntN(20) {
		e.Opers = append(e.Opers, anyOper(c))
	}
	if c.IntN(2) == 0 {
		slices.SortFunc(e.Opers, func(a, b api.Oper) int { return strings.Compare(a.Pattern, b.Pattern) })
	}
	e.Rows = ladder
	if c.IntN(2) == 0 {
		for g := range e.Rows {
			e.Rows[g] = int(c.Uint64() >> c.IntN(64))
		}
	}
	return e
}

// of is an env of the ladder with operators of these patterns, as they come, all of group 3.
func of(patterns ...string) api.Env {
	e := api.Env{Rows: ladder}
	for _, p := range patterns {
		e.Opers = append(e.Opers, api.Oper{Pattern: p, Group: 3})
	}
	return e
}

// patterns is those of e, in order.
func patterns(e api.Env) string {
	var l []string
	for _, o := range e.Opers {
		l = append(l, o.Pattern)
	}
	return strings.Join(l, " ")
}

// P14.1: the env with which all begins; it is asked about like any other.
func TestNew(t *testing.T) {
	if e := env.New(); len(e.Opers) != 0 || e.Rows != ladder || e.Rows != graph.Start() {
		t.Fatalf("New() = %+v", e)
	}
	for _, name := range names {
		asked(t, env.New(), name)
		if len(env.Entry(env.New(), name)) != 0 || !env.Same(env.New(), api.Env{}, name) {
			t.Errorf("New() has something of %q", name)
		}
	}
	for _, p := range good {
		drop(t, env.New(), p)
	}
}

// P14.1, P14.3: the chapter's example.
func TestExample(t *testing.T) {
	o := api.Oper{Pattern: "_+_", Group: 3, Assoc: api.AsLeft}
	e, code := env.Add(env.New(), o)
	if code != api.OK || !slices.Equal(env.Entry(e, "+"), []api.Entry{{Oper: o, Row: 6}}) {
		t.Errorf("%+v, %d", env.Entry(e, "+"), code)
	}
}

// P14.1: where an operator comes to stand: ahead of all, between two, behind all, and in the place of one; byte by byte, also where letters and sequences come in.
func TestAddPlaces(t *testing.T) {
	for _, c := range []struct {
		e       api.Env
		pattern string
		want    string
	}{
		{of(), "b_", "b_"},
		{of("b_", "d_"), "a_", "a_ b_ d_"},
		{of("b_", "d_"), "b_", "b_ d_"},
		{of("b_", "d_"), "c_", "b_ c_ d_"},
		{of("b_", "d_"), "d_", "b_ d_"},
		{of("b_", "d_"), "e_", "b_ d_ e_"},
		{of("b_", "d_"), "b_b", "b_ b_b d_"},    // a beginning is less
		{of("b_", "d_"), "bb_", "b_ bb_ d_"},    // the mark stands ahead of small letters
		{of("b_", "d_"), "bB_", "bB_ b_ d_"},    // but behind great ones
		{of("b_", "d_"), "_b", "_b b_ d_"},      // likewise
		{of("b_", "d_"), "+_", "+_ b_ d_"},      // and symbols
		{of("b_", "d_"), "{_}", "b_ d_ {_}"},    // but not all
		{of("b_"), "\xc3\xa9_", "b_ \xc3\xa9_"}, // high bytes are greater than all others
		{of("\xc3\xa9_"), "z_", "z_ \xc3\xa9_"}, // likewise
		{of("d_", "b_"), "c_", "c_ d_ b_"},      // those handed in need not rise: the first one that is not less
		{of("d_", "b_"), "b_", "b_ d_ b_"},      // even if the same stands behind it
		{of("a_", "d_", "b_"), "b_", "a_ b_ d_ b_"},
		{of("d_", "b_"), "d_", "d_ b_"},
		{of("d_", "b_"), "e_", "d_ b_ e_"},
		{of("b_", "b_", "b_"), "b_", "b_ b_ b_"}, // nor be each once: the first one goes
		{of("", "x", "_"), "a_", " a_ x _"},      // nor be such as may be
	} {
		o := api.Oper{Pattern: c.pattern, Group: 7}
		got, code := add(t, c.e, o)
		if patterns(got) != c.want || code != api.OK {
			t.Errorf("Add(%s, %q): %s, %d, not %s", patterns(c.e), c.pattern, patterns(got), code, c.want)
		}
		if first := slices.Index(got.Opers, o); first < 0 || first != slices.IndexFunc(got.Opers, func(x api.Oper) bool { return x.Pattern == c.pattern }) {
			t.Errorf("Add(%s, %q): %+v", patterns(c.e), c.pattern, got)
		}
	}
}

// P14.1, R3: oper.May's errors, each of them, and of several the first one; they are told ahead of ErrFull.
func TestAddErrors(t *testing.T) {
	few := of("a_", "_b")
	full := api.Env{Rows: ladder}
	for range 16 {
		full.Opers = append(full.Opers, api.Oper{Pattern: "a_", Group: 1})
	}
	for _, e := range []api.Env{{}, env.New(), few, full} {
		for _, c := range []struct {
			pattern      string
			group, assoc int
			want         api.Errno
		}{
			{"a", 1, 0, 23}, {"", 1, 0, 23}, {"_", 1, 0, 23}, {"(_)", 3, 0, 23}, {"a", 0, 7, 23}, {"", 10, 1, 23},
			{"b_", 0, 0, 21}, {"b_", 10, 0, 21}, {"b_", -1, 0, 21}, {"b_", 0, 3, 21}, {"a_", 0, 0, 21},
			{"b_", 3, 1, 24}, {"_b", 3, 2, 24}, {"[_]", 3, 1, 24}, {"_b_", 3, 3, 24}, {"_b_", 3, -1, 24}, {"a_", 3, 1, 24},
		} {
			o := api.Oper{Pattern: c.pattern, Group: c.group, Assoc: c.assoc}
			if got, code := add(t, e, o); !same(got, api.Env{}) || code != c.want {
				t.Errorf("Add(%s, %+v) = %+v, %d, not %d", patterns(e), o, got, code, c.want)
			}
		}
		for _, p := range bad {
			if _, code := add(t, e, api.Oper{Pattern: p, Group: 1}); code != api.ErrPattern {
				t.Errorf("Add of %q: %d", p, code)
			}
		}
		for _, n := range far() {
			add(t, e, api.Oper{Pattern: "_c_", Group: n})
			add(t, e, api.Oper{Pattern: "_c_", Group: 9, Assoc: n})
			add(t, e, api.Oper{Pattern: "a_", Group: n, Assoc: n})
		}
	}
}

// P14.1: sixteen operators, and no more; what takes another one's place still may, even where there are more.
func TestAddFull(t *testing.T) {
	e := env.New()
	for n := range 16 {
		o := api.Oper{Pattern: "_" + strings.Repeat("+", n+1) + "_", Group: 1 + n%9}
		next, code := add(t, e, o)
		if code != api.OK || len(next.Opers) != n+1 {
			t.Fatalf("operator %d: %d", n+1, code)
		}
		e = next
	}
	for _, p := range []string{"!_", "_+++_a_", "_a_", "a_", "\xc3\xa9_", "_" + strings.Repeat("+", 17) + "_"} {
		if got, code := add(t, e, api.Oper{Pattern: p, Group: 1}); !same(got, api.Env{}) || code != api.ErrFull {
			t.Errorf("a seventeenth operator, %q: %+v, %d", p, got, code)
		}
	}
	for _, more := range []int{0, 1, 2, 50} {
		many := copied(e)
		for range more {
			many.Opers = append(many.Opers, api.Oper{Pattern: "a_", Group: 1})
		}
		if got, code := add(t, many, api.Oper{Pattern: "_a_", Group: 1}); !same(got, api.Env{}) || code != api.ErrFull {
			t.Errorf("one more than %d: %+v, %d", len(many.Opers), got, code)
		}
		if got, code := add(t, many, api.Oper{Pattern: "b_", Group: 1}); !same(got, api.Env{}) || code != api.ErrFull {
			t.Errorf("one more than %d, behind all: %+v, %d", len(many.Opers), got, code)
		}
		for i, o := range many.Opers[:16] {
			o.Group, o.Assoc = 9, api.AsRight
			if got, code := add(t, many, o); code != api.OK || len(got.Opers) != len(many.Opers) || got.Opers[i] != o {
				t.Errorf("place %d of %d: %+v, %d", i, len(many.Opers), got, code)
			}
		}
	}
	fewer, code := drop(t, e, "_+++_")
	if code != api.OK || len(fewer.Opers) != 15 {
		t.Fatalf("%+v, %d", fewer, code)
	}
	if next, code := add(t, fewer, api.Oper{Pattern: "_a_", Group: 1}); code != api.OK || len(next.Opers) != 16 {
		t.Errorf("%+v, %d, behind a drop", next, code)
	}
}

// P14.2: which operator is dropped: the first one of that pattern, whatever it is.
func TestDrop(t *testing.T) {
	for _, c := range []struct {
		e             api.Env
		pattern, want string
		code          api.Errno
	}{
		{of(), "a_", "", 2},
		{of("a_"), "a_", "", 0},
		{of("a_"), "b_", "", 2},
		{of("a_"), "a", "", 2},
		{of("a_"), "a_a", "", 2},
		{of("a_"), "", "", 2},
		{of("a_"), "_", "", 2},
		{of("a_", "b_", "c_"), "a_", "b_ c_", 0},
		{of("a_", "b_", "c_"), "b_", "a_ c_", 0},
		{of("a_", "b_", "c_"), "c_", "a_ b_", 0},
		{of("a_", "b_", "c_"), "bb_", "", 2},
		{of("if_then_", "if_then_else_"), "if_then_", "if_then_else_", 0},
		{of("if_then_", "if_then_else_"), "if_then", "", 2},
		{of("c_", "a_", "b_"), "b_", "c_ a_", 0}, // those handed in need not rise
		{of("b_", "", "a_"), "", "b_ a_", 0},     // nor be such as may be
		{of("x", "y"), "y", "x", 0},
	} {
		got, code := drop(t, c.e, c.pattern)
		if patterns(got) != c.want || code != c.code {
			t.Errorf("Drop(%s, %q): %s, %d, not %s, %d", patterns(c.e), c.pattern, patterns(got), code, c.want, c.code)
		}
		if rows := map[api.Errno]api.Rows{0: ladder}[code]; got.Rows != rows {
			t.Errorf("Drop(%s, %q): %b", patterns(c.e), c.pattern, got.Rows)
		}
	}
	twice := api.Env{Opers: []api.Oper{{Pattern: "b_"}, {Pattern: "a_", Group: 1}, {Pattern: "b_"}, {Pattern: "a_", Group: 2}, {Pattern: "a_", Group: 3}}}
	want := []api.Oper{{Pattern: "b_"}, {Pattern: "b_"}, {Pattern: "a_", Group: 2}, {Pattern: "a_", Group: 3}}
	if got, code := drop(t, twice, "a_"); code != api.OK || !slices.Equal(got.Opers, want) {
		t.Errorf("the first of three: %+v, %d", got, code)
	}
	for _, p := range slices.Concat(good, bad) {
		drop(t, twice, p)
		if got, code := drop(t, of(p), p); code != api.OK || len(got.Opers) != 0 {
			t.Errorf("Drop of %q alone: %+v, %d", p, got, code)
		}
	}
}

// P14.2: edges, and their errors; the operators stay.
func TestEdge(t *testing.T) {
	for _, e := range []api.Env{env.New(), of("a_", "b_"), of("b_", "a_", "b_", "x"), {}} {
		for _, g := range far() {
			for _, h := range far() {
				got, code := edge(t, e, g, h)
				if code == api.OK && !slices.Equal(got.Opers, e.Opers) || code != api.OK && !same(got, api.Env{}) {
					t.Errorf("Edge(%+v, %d, %d) = %+v, %d", e, g, h, got, code)
				}
			}
		}
	}
	e := of("_+_", "_*_")
	got, code := edge(t, e, 7, 3)
	if code != api.OK || got.Rows != (api.Rows{0, 0, 2, 6, 14, 30, 0, 14}) || patterns(got) != "_+_ _*_" {
		t.Errorf("7 to 3: %+v, %d", got, code)
	}
	for _, c := range []struct {
		g, h int
		want api.Errno
	}{{3, 7, 25}, {1, 7, 25}, {7, 7, 25}, {1, 2, 25}, {0, 7, 21}, {7, 10, 21}, {10, 10, 21}, {-1, -1, 21}} {
		if again, code := edge(t, got, c.g, c.h); !same(again, api.Env{}) || code != c.want {
			t.Errorf("Edge(%d, %d): %+v, %d, not %d", c.g, c.h, again, code, c.want)
		}
	}
}

// P14.3: which operators a name is a part of: whole parts alone, each operator once, in the order of the env, with the rows of their groups.
func TestEntry(t *testing.T) {
	e := api.Env{Rows: api.Rows{1 << 4, 2, 4, 6, 14, 30, 7, -1, math.MinInt, 1 << 9}}
	e.Opers = []api.Oper{
		{Pattern: "_a_b_a_b_", Group: 3, Assoc: 2},
		{Pattern: "a_a", Group: 9},
		{Pattern: "if_then_", Group: 5},
		{Pattern: "if_then_else_", Group: 8, Assoc: 2},
		{Pattern: "a", Group: 4}, // no shape
		{Pattern: "ab_", Group: 1},
		{Pattern: "a_", Group: 0, Assoc: 5}, // what may not be, but has a shape
		{Pattern: "(_a", Group: 4},          // no shape
		{Pattern: "_a", Group: -1},          // no row
		{Pattern: "a_b", Group: 10},         // likewise
		{Pattern: "a_", Group: 7},           // twice
	}
	l := e.Opers
	for name, want := range map[string][]api.Entry{
		"a":    {{Oper: l[0], Row: 6}, {Oper: l[1], Row: 512}, {Oper: l[6], Row: 16}, {Oper: l[8]}, {Oper: l[9]}, {Oper: l[10], Row: -1}},
		"b":    {{Oper: l[0], Row: 6}, {Oper: l[9]}},
		"if":   {{Oper: l[2], Row: 30}, {Oper: l[3], Row: math.MinInt}},
		"then": {{Oper: l[2], Row: 30}, {Oper: l[3], Row: math.MinInt}},
		"else": {{Oper: l[3], Row: math.MinInt}},
		"ab":   {{Oper: l[5], Row: 2}},
		"":     nil, "_": nil, "i": nil, "A": nil, "(": nil, "a_": nil, "_a": nil, "a_a": nil, "if_then_": nil, "then_else": nil, "\xff": nil,
	} {
		if got := env.Entry(e, name); !slices.Equal(got, want) {
			t.Errorf("Entry of %q: %+v, not %+v", name, got, want)
		}
	}
	for _, p := range good {
		for _, g := range far() {
			one := api.Env{Rows: e.Rows, Opers: []api.Oper{{Pattern: p, Group: g}}}
			for _, name := range names {
				asked(t, one, name)
			}
		}
	}
	for _, p := range bad {
		for _, name := range append(names, p) {
			if got := env.Entry(of(p), name); len(got) != 0 {
				t.Errorf("Entry of %q in %q alone: %+v", name, p, got)
			}
		}
	}
}

// P14.3: what makes a name another one: each field of an operator that has it, the row of its group, how many there are, their order; and what does not.
func TestSame(t *testing.T) {
	a := api.Env{Rows: ladder, Opers: []api.Oper{{Pattern: "_+_", Group: 3, Assoc: 1}, {Pattern: "if_then_", Group: 5}, {Pattern: "if_then_else_", Group: 6, Assoc: 2}}}
	change := func(f func(e *api.Env)) api.Env {
		b := copied(a)
		f(&b)
		return b
	}
	for i, c := range []struct {
		b     api.Env
		other string // the names that are not the same in b
	}{
		{a, ""},
		{change(func(e *api.Env) { e.Opers = e.Opers[:0] }), "+ if then else"},
		{change(func(e *api.Env) { e.Opers = e.Opers[:2] }), "if then else"},
		{change(func(e *api.Env) { e.Opers = e.Opers[1:] }), "+"},
		{change(func(e *api.Env) { e.Opers[0].Group = 4 }), "+"},
		{change(func(e *api.Env) { e.Opers[0].Assoc = 2 }), "+"},
		{change(func(e *api.Env) { e.Opers[0].Pattern = "_+" }), "+"},
		{change(func(e *api.Env) { e.Opers[0].Pattern = "_+_a_" }), "+ a"},
		{change(func(e *api.Env) { e.Opers[0].Pattern = "_-_" }), "+ -"},
		{change(func(e *api.Env) { e.Opers[1].Assoc = 2 }), "if then"},
		{change(func(e *api.Env) { e.Opers[1], e.Opers[2] = e.Opers[2], e.Opers[1] }), "if then"},
		{change(func(e *api.Env) { e.Opers[0], e.Opers[1] = e.Opers[1], e.Opers[0] }), ""},
		{change(func(e *api.Env) { e.Opers = append(e.Opers, e.Opers[0]) }), "+"},
		{change(func(e *api.Env) { e.Opers = append(e.Opers, api.Oper{Pattern: "+"}, api.Oper{Pattern: "(_+"}) }), ""}, // no shapes
		{change(func(e *api.Env) { e.Rows[3] |= 1 << 8 }), "+"},
		{change(func(e *api.Env) { e.Rows[5] = 0 }), "if then"},
		{change(func(e *api.Env) { e.Rows[6] = math.MinInt }), "if then else"},
		{change(func(e *api.Env) { e.Rows[0], e.Rows[1], e.Rows[2], e.Rows[4], e.Rows[7], e.Rows[9] = 9, 9, 9, 9, 9, 9 }), ""},
		{change(func(e *api.Env) { e.Opers[0].Group = 13 }), "+"},
	} {
		for _, name := range names {
			want := name == "" || !slices.Contains(strings.Fields(c.other), name)
			if env.Same(a, c.b, name) != want || env.Same(c.b, a, name) != want {
				t.Errorf("env %d: Same of %q is not %t", i, name, want)
			}
			asked(t, c.b, name)
		}
	}
	none := api.Env{Opers: []api.Oper{{Pattern: "_+_", Group: 11}}, Rows: ladder}
	if !env.Same(none, api.Env{Opers: none.Opers, Rows: api.Rows{9: -1}}, "+") {
		t.Error("an operator of no group is another one by other rows")
	}
}

// P14.3: parts of one operator, of two, and of what has no shape, are held against each other.
func TestUnique(t *testing.T) {
	for _, c := range []struct {
		e    api.Env
		want bool
	}{
		{of(), true},
		{of("_+_"), true},
		{of("_+_", "_-_", "_++_", "[_]", "if_then_else_", "{_}"), true},
		{of("aB_", "ab_", "a_", "b_", "B_"), true},
		{of("a_", "A_", "a"), true}, // two have no shape
		{of("a", "a", "a"), true},
		{of("", "", "_", "_", "(_)", "(_)"), true},
		{of("a_b_c_d_e", "a_b"), true},
		{of("a_a"), false},
		{of("|_|"), false},
		{of("_a_b_a_"), false},
		{of("_a_b_c_c_"), false},
		{of("a_b_c_a"), false},
		{of("_+_", "+_"), false},
		{of("if_then_", "if_then_else_"), false},
		{of("a_b", "c_d", "e_f", "d_g"), false},
		{of("a_b", "b_c"), false},
		{of("[_]", "_[_"), false},
		{of("a_", "a_"), false}, // those handed in need not be each once
		{of("a_", "x", "b_", "a_"), false},
	} {
		if env.Unique(c.e) != c.want {
			t.Errorf("Unique(%s) is not %t", patterns(c.e), c.want)
		}
		asked(t, c.e, "a")
	}
	for _, p := range good {
		for _, q := range good {
			asked(t, of(p, q), "a")
		}
	}
}

// R1 and all of P14.1 to P14.3: envs of all kinds, that come from New or not, with arguments of all kinds.
func TestAnyEnv(t *testing.T) {
	codes := map[api.Errno]int{}
	for seed := range uint64(4000) {
		c := rand.New(rand.NewPCG(seed, 141))
		e := anyEnv(c)
		for range 4 {
			_, code := add(t, e, anyOper(c))
			codes[code]++
			edge(t, e, far()[c.IntN(len(far()))], 1+c.IntN(9))
			edge(t, e, 1+c.IntN(9), 1+c.IntN(9))
			drop(t, e, anyOper(c).Pattern)
			f := anyEnv(c)
			name := names[c.IntN(len(names))]
			asked(t, e, name)
			if env.Same(e, f, name) != slices.Equal(entries(e, name), entries(f, name)) {
				t.Errorf("Same(%+v, %+v, %q) = %t", e, f, name, env.Same(e, f, name))
			}
		}
	}
	for _, code := range []api.Errno{api.OK, api.ErrFull, api.ErrGroup, api.ErrPattern, api.ErrAssoc} {
		if codes[code] < 50 {
			t.Errorf("error %d is told %d times", code, codes[code])
		}
	}
}

// P14.1 to P14.3: each byte in a pattern, and as a name.
func TestEachByte(t *testing.T) {
	for i := range 256 {
		x := string([]byte{byte(i)})
		for _, form := range []string{"X_", "_X_", "aX_", "_X_a", "X_X", "X"} {
			p := strings.ReplaceAll(form, "X", x)
			e := of("+_", "_a_", "b_", "\xc3\xa9_")
			if f, code := add(t, e, api.Oper{Pattern: p, Group: 2}); code == api.OK {
				e = f
			}
			for _, name := range []string{x, "a" + x, "a", "b"} {
				asked(t, e, name)
				asked(t, of(p, "a_"), name)
			}
			drop(t, e, p)
			drop(t, of(p, "a", p), p)
		}
	}
}

// R1: operators without number, of patterns without end.
func TestLarge(t *testing.T) {
	long := strings.Repeat("a_", 1<<15)
	many := api.Env{Opers: slices.Repeat([]api.Oper{{Pattern: "a_b", Group: 3}, {Pattern: long}}, 1<<13), Rows: ladder}
	if e, code := env.Add(many, api.Oper{Pattern: "a_", Group: 1}); len(e.Opers) != 0 || code != api.ErrFull {
		t.Errorf("%d operators, %d", len(e.Opers), code)
	}
	if e, code := env.Add(many, api.Oper{Pattern: "a_b", Group: 1}); len(e.Opers) != 1<<14 || code != api.OK || e.Opers[0].Group != 1 {
		t.Errorf("%d operators, %d", len(e.Opers), code)
	}
	if e, code := env.Drop(many, long); len(e.Opers) != 1<<14-1 || code != api.OK || e.Opers[1].Pattern != "a_b" || e.Opers[3].Pattern != "a_b" || e.Opers[2].Pattern != long {
		t.Errorf("%d operators, %d", len(e.Opers), code)
	}
	if l := env.Entry(many, "b"); len(l) != 1<<13 || l[1<<12].Row != 6 {
		t.Errorf("%d entries", len(l))
	}
	if env.Unique(many) || !env.Same(many, many, "a") || len(env.Entry(many, long)) != 0 {
		t.Error("many operators")
	}
}

// walk holds an env that came from New against the operators and the edges that made it.
func walk(t *testing.T, e api.Env, there map[string]api.Oper, rows api.Rows) {
	t.Helper()
	if len(e.Opers) != len(there) || e.Rows != rows {
		t.Fatalf("%+v, not %+v, %b", e, there, rows)
	}
	for i, o := range e.Opers {
		if there[o.Pattern] != o || oper.May(o) != api.OK || i > 0 && e.Opers[i-1].Pattern >= o.Pattern {
			t.Fatalf("operator %d of %+v, not %+v", i, e, there)
		}
	}
}

// P14.4: from New on, behind many changes at random, some of which may not be: operators rise, each once, each may be, and they are those that were added last and not dropped.
func TestWalk(t *testing.T) {
	refused := map[api.Errno]int{}
	for seed := range uint64(300) {
		c := rand.New(rand.NewPCG(seed, 142))
		e, there, rows := env.New(), map[string]api.Oper{}, graph.Start()
		for range 150 {
			var next api.Env
			var code api.Errno
			o := anyOper(c)
			switch c.IntN(8) {
			case 0:
				g, h := c.IntN(11), c.IntN(11)
				if next, code = edge(t, e, g, h); code == api.OK {
					rows, _ = graph.Edge(rows, g, h)
				}
			case 1, 2:
				if next, code = drop(t, e, o.Pattern); code == api.OK {
					delete(there, o.Pattern)
				}
			default:
				if next, code = add(t, e, o); code == api.OK {
					there[o.Pattern] = o
				}
			}
			refused[code]++
			if code == api.OK {
				e = next
			}
			walk(t, e, there, rows)
			asked(t, e, names[c.IntN(len(names))])
		}
	}
	for _, code := range []api.Errno{api.OK, api.ErrNone, api.ErrFull, api.ErrGroup, api.ErrPattern, api.ErrAssoc, api.ErrCycle} {
		if refused[code] < 100 {
			t.Errorf("error %d is told %d times", code, refused[code])
		}
	}
}

// P14.4: in whatever order operators are added, the same env comes of it.
func TestOrder(t *testing.T) {
	l := []string{"+_", "_+", "_+_", "a_", "aB_", "ab_", "if_then_", "if_then_else_", "[_]", "\xc3\xa9_", "{_}"}
	sorted := slices.Clone(l)
	sort.Strings(sorted)
	for seed := range uint64(500) {
		c := rand.New(rand.NewPCG(seed, 143))
		c.Shuffle(len(l), func(i, k int) { l[i], l[k] = l[k], l[i] })
		e := env.New()
		for _, p := range l {
			e, _ = add(t, e, api.Oper{Pattern: p, Group: 3})
		}
		if !same(e, of(sorted...)) {
			t.Fatalf("%q: %s", l, patterns(e))
		}
	}
}

// R7: what is told does not see what becomes of what was handed in, nor the other way, nor does another answer.
func TestOwn(t *testing.T) {
	with := func(room int) api.Env {
		e := of("a_", "c_", "e_")
		e.Opers = append(make([]api.Oper, 0, 3+room), e.Opers...)
		return e
	}
	calls := map[string]func(e api.Env) (api.Env, api.Errno){
		"ahead":  func(e api.Env) (api.Env, api.Errno) { return env.Add(e, api.Oper{Pattern: "_a", Group: 1}) },
		"amid":   func(e api.Env) (api.Env, api.Errno) { return env.Add(e, api.Oper{Pattern: "b_", Group: 1}) },
		"behind": func(e api.Env) (api.Env, api.Errno) { return env.Add(e, api.Oper{Pattern: "f_", Group: 1}) },
		"in":     func(e api.Env) (api.Env, api.Errno) { return env.Add(e, api.Oper{Pattern: "c_", Group: 1}) },
		"first":  func(e api.Env) (api.Env, api.Errno) { return env.Drop(e, "a_") },
		"last":   func(e api.Env) (api.Env, api.Errno) { return env.Drop(e, "e_") },
		"edge":   func(e api.Env) (api.Env, api.Errno) { return env.Edge(e, 7, 3) },
		"none":   func(e api.Env) (api.Env, api.Errno) { return env.Drop(e, "f_") },
		"round":  func(e api.Env) (api.Env, api.Errno) { return env.Edge(e, 1, 2) },
		"wrong":  func(e api.Env) (api.Env, api.Errno) { return env.Add(e, api.Oper{Pattern: "c_"}) },
	}
	for name, call := range calls {
		for _, room := range []int{0, 1, 8} {
			e := with(room)
			one, _ := call(e)
			two, _ := call(e)
			if !same(one, two) || !same(e, with(0)) || slices.ContainsFunc(e.Opers[:cap(e.Opers)][3:], func(o api.Oper) bool { return o != api.Oper{} }) {
				t.Errorf("%s, with room for %d: %+v, %+v, of %+v", name, room, one, two, e)
			}
			kept := copied(two)
			clear(one.Opers[:cap(one.Opers)])
			one.Rows = api.Rows{}
			if !same(two, kept) || !same(e, with(0)) {
				t.Errorf("%s: an answer that is written over has made %+v, of %+v", name, two, e)
			}
			clear(e.Opers[:cap(e.Opers)])
			if !same(two, kept) {
				t.Errorf("%s: what was handed in and is written over has made %+v", name, two)
			}
		}
	}
	e := of("a_", "a_b")
	one, two := env.Entry(e, "a"), env.Entry(e, "a")
	clear(one)
	if len(two) != 2 || two[0].Oper != e.Opers[0] || e.Opers[0].Pattern != "a_" {
		t.Errorf("%+v, of %+v", two, e)
	}
	clear(e.Opers)
	if two[1].Oper.Pattern != "a_b" || two[1].Row != 6 {
		t.Errorf("%+v", two)
	}
}

// R6: a second call tells the same, whatever was asked, and whatever became of what was told, between.
func TestAgain(t *testing.T) {
	for range 3 {
		e := env.New()
		walk(t, e, nil, ladder)
		e.Rows[7] = -1
		e.Opers = append(e.Opers, api.Oper{Pattern: "z_"})
		f, _ := add(t, of("a_"), api.Oper{Pattern: "_+_", Group: 3})
		drop(t, f, "a_")
		drop(t, of("a_"), "_+_")
		edge(t, f, 7, 3)
		for _, name := range names {
			asked(t, f, name)
			asked(t, of("a_"), name)
		}
	}
}
