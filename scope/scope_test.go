package scope_test

import (
	"math"
	"math/rand/v2"
	"slices"
	"strings"
	"testing"

	"tmesis/api"
	"tmesis/decl"
	"tmesis/env"
	"tmesis/scope"
	"tmesis/split"
)

// ladder is the rows that no edge has changed.
var ladder = api.Rows{0, 0, 0b10, 0b110, 0b1110, 0b11110, 0, 0, 0, 0}

// good is patterns that have a shape, bad is some that have none.
var (
	good = []string{"_+_", "_+", "+_", "_-_", "_*_", "if_then_", "if_then_else_", "_a_a", "a_", "[_]", "_else", "b_", "_c", "\xc3\xa9_", "!_", "_=_", "_d_", "e_f_", "_g", "{_}_"}
	bad  = []string{"", "_", "+", "a", "__", "(_)", "_,_", "a__b", "_X_", "a_\xff", "\x00", "_a_b_c_d_e", strings.Repeat("a", 40) + "_"}
)

// The directives that begin a block, and that end one.
var (
	begins = api.Decl{Kind: 4}
	ends   = api.Decl{Kind: 5}
)

// adds, drops and ties are the directives of an operator, of one that is dropped, and of an edge.
func adds(pattern string, group, assoc int) api.Decl {
	return api.Decl{Kind: 1, Oper: api.Oper{Pattern: pattern, Group: group, Assoc: assoc}}
}

func drops(pattern string) api.Decl {
	return api.Decl{Kind: 2, Oper: api.Oper{Pattern: pattern}}
}

func ties(g, h int) api.Decl {
	return api.Decl{Kind: 3, G: g, H: h}
}

// far is numbers of all sizes: small ones, their opposites, and those that go round to them.
func far() []int {
	out := []int{math.MinInt, math.MinInt + 1, math.MinInt + 4, math.MaxInt, math.MaxInt - 1, 1<<31 - 1, 1 << 31, -1 << 31, 1 << 32, 1<<32 + 1, 1<<32 + 4, 1 << 62, 255, 256, 257, 260, 261, 1<<16 + 5}
	for i := -12; i <= 12; i++ {
		out = append(out, i)
	}
	return out
}

// of is an env of the ladder with operators of these patterns, as they come, all of group 3.
func of(patterns ...string) api.Env {
	e := api.Env{Rows: ladder}
	for _, p := range patterns {
		e.Opers = append(e.Opers, api.Oper{Pattern: p, Group: 3})
	}
	return e
}

// within is a scope in so many blocks, ahead of each of which other operators hold, and other edges.
func within(e api.Env, blocks int) api.Scope {
	s := api.Scope{Env: e}
	for i := range blocks {
		outer := of(strings.Repeat("+", i+1) + "_")
		outer.Rows[9] = 1 << (i % 9)
		s.Stack = append(s.Stack, outer)
	}
	return s
}

// sameEnv and same tell whether two envs, two scopes, are the same.
func sameEnv(a, b api.Env) bool {
	return a.Rows == b.Rows && slices.Equal(a.Opers, b.Opers)
}

func same(a, b api.Scope) bool {
	return sameEnv(a.Env, b.Env) && slices.EqualFunc(a.Stack, b.Stack, sameEnv)
}

// copied is s, sharing nothing with it.
func copied(s api.Scope) api.Scope {
	var l []api.Env
	for _, e := range append(slices.Clip(slices.Clone(s.Stack)), s.Env) {
		l = append(l, api.Env{Opers: append([]api.Oper{}, e.Opers...), Rows: e.Rows})
	}
	return api.Scope{Env: l[len(l)-1], Stack: l[:len(l)-1]}
}

// wanted is what Step has to tell: with the env behind those of the stack in one row, a begin doubles the last one, an end drops it, and all else changes it.
func wanted(s api.Scope, d api.Decl) (api.Scope, api.Errno) {
	row := append(append([]api.Env{}, s.Stack...), s.Env)
	inner := &row[len(row)-1]
	var code api.Errno
	switch d.Kind {
	case 1:
		*inner, code = env.Add(*inner, d.Oper)
	case 2:
		*inner, code = env.Drop(*inner, d.Oper.Pattern)
	case 3:
		*inner, code = env.Edge(*inner, d.G, d.H)
	case 4:
		row = append(row, *inner)
		if len(row) > 7 {
			code = 26
		}
	case 5:
		row = row[:len(row)-1]
		if len(row) == 0 {
			code = 26
		}
	default:
		code = 20
	}
	if code != 0 {
		return api.Scope{}, code
	}
	return api.Scope{Env: row[len(row)-1], Stack: row[:len(row)-1]}, 0
}

// step holds Step against what it has to tell, and tells what it told.
func step(t *testing.T, s api.Scope, d api.Decl) (api.Scope, api.Errno) {
	t.Helper()
	before := copied(s)
	want, code := wanted(copied(s), d)
	got, told := scope.Step(s, d)
	if !same(got, want) || told != code {
		t.Errorf("Step(%+v, %+v) = %+v, %d, not %+v, %d", before, d, got, told, want, code)
	}
	if !same(s, before) {
		t.Errorf("Step(%+v, %+v) has made %+v of it", before, d, s)
	}
	return got, told
}

// steps goes from s through directives each of which has to be taken.
func steps(t *testing.T, s api.Scope, l ...api.Decl) api.Scope {
	t.Helper()
	for i, d := range l {
		u, code := step(t, s, d)
		if code != api.OK {
			t.Fatalf("directive %d of %+v: %d", i, l, code)
		}
		s = u
	}
	return s
}

// anyDecl is a directive of any kind; most may be. What its kind does not ask for may be said too.
func anyDecl(c *rand.Rand) api.Decl {
	d := api.Decl{Kind: []int{1, 1, 1, 1, 1, 1, 1, 1, 1, 1, 1, 2, 3, 4, 4, 5}[c.IntN(16)]}
	d.Oper = api.Oper{Pattern: good[c.IntN(len(good))], Group: 1 + c.IntN(9), Assoc: c.IntN(3)}
	d.G, d.H = c.IntN(11), c.IntN(11)
	switch c.IntN(24) {
	case 0:
		d.Kind = far()[c.IntN(len(far()))]
	case 1:
		d.Oper.Pattern = bad[c.IntN(len(bad))]
	case 2:
		d.Oper.Group = far()[c.IntN(len(far()))]
	case 3:
		d.Oper.Assoc = far()[c.IntN(len(far()))]
	case 4:
		d.G, d.H = far()[c.IntN(len(far()))], far()[c.IntN(len(far()))]
	}
	return d
}

// anyEnv is an env of any kind, which need not come from env.New.
func anyEnv(c *rand.Rand) api.Env {
	var e api.Env
	for range c.IntN(19) {
		e.Opers = append(e.Opers, anyDecl(c).Oper)
	}
	for g := range e.Rows {
		e.Rows[g] = int(c.Uint64() >> c.IntN(64))
	}
	if c.IntN(2) == 0 {
		e.Rows = ladder
	}
	return e
}

// texted is the scope behind all directives of a text, and what each of them told.
func texted(t *testing.T, text string) (api.Scope, []api.Errno) {
	t.Helper()
	s, told := scope.Start(), []api.Errno(nil)
	for _, p := range split.Pieces([]byte(text)) {
		d, code := decl.Of(p)
		if code != api.OK {
			t.Fatalf("%q: %+v is no directive, %d", text, p, code)
		}
		u, code := step(t, s, d)
		if told = append(told, code); code == api.OK {
			s = u
		}
	}
	return s, told
}

// P16.1: the scope with which all begins.
func TestStart(t *testing.T) {
	s := scope.Start()
	if len(s.Env.Opers) != 0 || s.Env.Rows != ladder || !sameEnv(s.Env, env.New()) || len(s.Stack) != 0 {
		t.Fatalf("Start() = %+v", s)
	}
}

// P16.2, P16.3: the chapter's example.
func TestExample(t *testing.T) {
	s := steps(t, scope.Start(), begins, adds("_+_", 3, api.AsNon), ends)
	if len(s.Env.Opers) != 0 || !same(s, scope.Start()) {
		t.Errorf("%+v", s)
	}
}

// P16.2: what each kind changes, told value by value, in no block and in some.
func TestKinds(t *testing.T) {
	tied := of("a_", "b_")
	tied.Rows[7] = 0b1110 // 3, and so what is tighter than that
	leans := of("a_", "b_")
	leans.Opers[1] = api.Oper{Pattern: "b_", Group: 9, Assoc: 2}
	ahead := of("_+_", "a_", "b_")
	ahead.Opers[0] = api.Oper{Pattern: "_+_", Group: 7, Assoc: 1}
	for blocks := range 6 {
		s := within(of("a_", "b_"), blocks)
		for _, c := range []struct {
			d    api.Decl
			want api.Env
		}{
			{adds("_+_", 7, 1), ahead},
			{adds("b_", 9, 2), leans},
			{drops("a_"), of("b_")},
			{drops("b_"), of("a_")},
			{ties(7, 3), tied},
		} {
			if u, code := step(t, s, c.d); code != api.OK || !same(u, within(c.want, blocks)) {
				t.Errorf("%+v in %d blocks: %+v, %d", c.d, blocks, u, code)
			}
		}
		u, code := step(t, s, begins)
		if code != api.OK || !sameEnv(u.Env, s.Env) || len(u.Stack) != blocks+1 || !sameEnv(u.Stack[blocks], s.Env) || !slices.EqualFunc(u.Stack[:blocks], s.Stack, sameEnv) {
			t.Errorf("a beginning in %d blocks: %+v, %d", blocks, u, code)
		}
		if blocks == 0 {
			continue
		}
		u, code = step(t, s, ends)
		if code != api.OK || !sameEnv(u.Env, s.Stack[blocks-1]) || !slices.EqualFunc(u.Stack, s.Stack[:blocks-1], sameEnv) {
			t.Errorf("an end in %d blocks: %+v, %d", blocks, u, code)
		}
	}
}

// P16.2, R2, R3: env's errors, each of them, whatever the stack is; beside them all is zero.
func TestEnvErrors(t *testing.T) {
	full := api.Env{Rows: ladder}
	for n := range 16 {
		full.Opers = append(full.Opers, api.Oper{Pattern: "_" + strings.Repeat("+", n+1) + "_", Group: 3})
	}
	for _, blocks := range []int{0, 1, 5, 6, 7, 20} {
		for _, c := range []struct {
			e    api.Env
			d    api.Decl
			want api.Errno
		}{
			{of(), adds("a", 3, 0), api.ErrPattern},
			{of(), adds("", 0, 9), api.ErrPattern},
			{of("a_"), adds("a_", 0, 0), api.ErrGroup},
			{of("a_"), adds("b_", 10, 3), api.ErrGroup},
			{of("a_"), adds("b_", 9, 1), api.ErrAssoc},
			{of("a_"), adds("[_]", 1, 2), api.ErrAssoc},
			{full, adds("a_", 3, 0), api.ErrFull},
			{full, adds("a_", 10, 0), api.ErrGroup},
			{full, adds("_+_", 1, 2), api.OK},
			{of(), drops("a_"), api.ErrNone},
			{of("a_"), drops("_a"), api.ErrNone},
			{of("a_"), drops(""), api.ErrNone},
			{of("a_"), drops("a"), api.ErrNone},
			{of("+_"), drops("++_"), api.ErrNone}, // though one holds ahead of a block
			{of(), ties(0, 3), api.ErrGroup},
			{of(), ties(3, 10), api.ErrGroup},
			{of(), ties(-1, -1), api.ErrGroup},
			{of(), ties(7, 7), api.ErrCycle},
			{of(), ties(1, 2), api.ErrCycle},
			{of(), ties(2, 1), api.OK},
			{of(), ties(9, 8), api.OK},
		} {
			s := within(c.e, blocks)
			if u, code := step(t, s, c.d); code != c.want || code != api.OK && !same(u, api.Scope{}) {
				t.Errorf("%+v in %d blocks: %+v, %d, not %d", c.d, blocks, u, code, c.want)
			}
		}
		for _, n := range far() {
			for _, d := range []api.Decl{adds("_a_", n, 0), adds("_a_", 9, n), adds("b_", n, n), ties(n, 3), ties(7, n), ties(n, n)} {
				step(t, within(of("b_"), blocks), d)
			}
		}
		for _, p := range bad {
			if _, code := step(t, within(of(), blocks), adds(p, 3, 0)); code != api.ErrPattern {
				t.Errorf("an operator %q: %d", p, code)
			}
			if _, code := step(t, within(of(), blocks), drops(p)); code != api.ErrNone {
				t.Errorf("a drop of %q: %d", p, code)
			}
		}
	}
}

// P16.2: a kind that there is not is ErrDirective, wherever, and whatever else it says.
func TestOtherKinds(t *testing.T) {
	for _, n := range far() {
		if n >= 1 && n <= 5 {
			continue
		}
		for _, blocks := range []int{0, 1, 5, 6, 7, 20} {
			for _, d := range []api.Decl{{}, adds("_+_", 3, 1), adds("a", 99, 9), drops("a_"), drops("b_"), ties(7, 3), ties(3, 3)} {
				d.Kind = n
				if u, code := step(t, within(of("a_"), blocks), d); code != api.ErrDirective || !same(u, api.Scope{}) {
					t.Errorf("kind %d in %d blocks: %+v, %d", n, blocks, u, code)
				}
			}
		}
	}
}

// P16.2: a kind asks for no more than what it names: of a drop the pattern alone, of a block nothing.
func TestUnasked(t *testing.T) {
	s := within(of("a_", "b_"), 2)
	for _, n := range far() {
		for _, p := range []string{"_+_", "a", ""} {
			for _, d := range []api.Decl{adds("_+_", 3, 0), drops("a_"), ties(7, 3), begins, ends} {
				loud := d
				switch d.Kind {
				case 1:
					loud.G, loud.H = n, n
				case 2:
					loud.Oper.Group, loud.Oper.Assoc, loud.G, loud.H = n, n, n, n
				case 3:
					loud.Oper = api.Oper{Pattern: p, Group: n, Assoc: n}
				default:
					loud.Oper, loud.G, loud.H = api.Oper{Pattern: p, Group: n, Assoc: n}, n, n
				}
				want, _ := step(t, s, d)
				if got, code := step(t, s, loud); code != api.OK || !same(got, want) {
					t.Errorf("%+v: %+v, %d, not %+v", loud, got, code, want)
				}
			}
		}
	}
}

// P16.2: six blocks may begin in one another, and no more, however many there are already; who may not begin one may still end one.
func TestBegin(t *testing.T) {
	s := scope.Start()
	for blocks := range 6 {
		s = steps(t, s, begins)
		if len(s.Stack) != blocks+1 {
			t.Fatalf("%d beginnings: %+v", blocks+1, s)
		}
	}
	for _, e := range []api.Env{{}, of(), of("a_")} {
		for blocks := range 60 {
			u, code := step(t, within(e, blocks), begins)
			switch {
			case blocks < 6 && (code != api.OK || len(u.Stack) != blocks+1):
				t.Errorf("a beginning in %d blocks: %+v, %d", blocks, u, code)
			case blocks >= 6 && (code != api.ErrScope || !same(u, api.Scope{})):
				t.Errorf("a beginning in %d blocks: %+v, %d", blocks, u, code)
			}
		}
	}
	if _, code := step(t, s, begins); code != api.ErrScope {
		t.Errorf("a seventh block: %d", code)
	}
	s = steps(t, s, adds("a_", 3, 0), ends, begins)
	if _, code := step(t, s, begins); code != api.ErrScope || len(s.Stack) != 6 {
		t.Errorf("a seventh block behind an end: %+v, %d", s, code)
	}
}

// P16.2: an end needs a beginning, and takes one, of however many; each brings back what held there.
func TestEnd(t *testing.T) {
	for _, s := range []api.Scope{{}, scope.Start(), {Env: of("a_")}, {Env: of(), Stack: []api.Env{}}, {Stack: make([]api.Env, 0, 4)}} {
		if u, code := step(t, s, ends); code != api.ErrScope || !same(u, api.Scope{}) {
			t.Errorf("an end in %+v: %+v, %d", s, u, code)
		}
	}
	all := within(of("a_"), 60)
	s := all
	for blocks := 59; blocks >= 0; blocks-- {
		s = steps(t, s, ends)
		if !same(s, within(all.Stack[blocks], blocks)) {
			t.Fatalf("an end to %d blocks: %+v", blocks, s)
		}
	}
	if _, code := step(t, s, ends); code != api.ErrScope {
		t.Errorf("an end in no block: %d", code)
	}
	bare := api.Scope{Env: of("a_"), Stack: make([]api.Env, 2)} // an env ahead of a block need not come from env.New
	if u := steps(t, bare, ends); !same(u, api.Scope{Stack: make([]api.Env, 1)}) {
		t.Errorf("%+v", u)
	}
}

// P16.3: what is declared, dropped, changed and tied in a block holds in it, and in blocks in it, but not behind its end; what held ahead holds there again.
func TestBlock(t *testing.T) {
	outer := steps(t, scope.Start(), adds("_+_", 3, 1), adds("a_", 2, 0), ties(7, 3))
	inner := steps(t, outer, begins, adds("_+_", 9, 2), drops("a_"), adds("b_", 1, 0), ties(9, 7))
	if l := inner.Env.Opers; !slices.Equal(l, []api.Oper{{Pattern: "_+_", Group: 9, Assoc: 2}, {Pattern: "b_", Group: 1}}) || inner.Env.Rows[9] != 0b10001110 {
		t.Errorf("in a block: %+v", inner)
	}
	deeper := steps(t, inner, begins)
	if !sameEnv(deeper.Env, inner.Env) {
		t.Errorf("in a block in it: %+v", deeper)
	}
	if u := steps(t, deeper, drops("b_"), drops("_+_"), ends); !same(u, inner) {
		t.Errorf("behind that: %+v, not %+v", u, inner)
	}
	if u := steps(t, inner, ends); !same(u, outer) {
		t.Errorf("behind the block: %+v, not %+v", u, outer)
	}
	if u := steps(t, inner, ends, begins, drops("_+_"), ends); !same(u, outer) {
		t.Errorf("behind a second block: %+v, not %+v", u, outer)
	}
}

// P16.2, P16.3: directives as they stand in texts.
func TestTexts(t *testing.T) {
	for _, c := range []struct {
		text  string
		opers string
		told  []api.Errno
	}{
		{"", "", nil},
		{":- end.", "", []api.Errno{26}},
		{":- op(3, yfx, +). :- begin. :- op(0, yfx, +).", "", []api.Errno{0, 0, 0}},
		{":- op(3, yfx, +). :- begin. :- op(0, yfx, +). :- end.", "_+_", []api.Errno{0, 0, 0, 0}},
		{":- op(0, yfx, +). :- op(3, yfx, +). :- op(0, fy, +).", "_+_", []api.Errno{2, 0, 2}},
		{":- begin. :- op(3, yfx, +). :- end. :- op(0, yfx, +). :- end.", "", []api.Errno{0, 0, 0, 2, 26}},
		{":- begin. :- op(2, fy, -). :- begin. :- op(3, yfx, +). :- end. :- op(1, xf, '!').", "-_ _!", []api.Errno{0, 0, 0, 0, 0, 0}},
		{":- edge(0, 3). :- edge(10, 3). :- edge(3, 3). :- edge(3, 7). :- edge(7, 3).", "", []api.Errno{21, 21, 25, 0, 25}},
		{":- begin. :- edge(3, 7). :- end. :- edge(7, 3).", "", []api.Errno{0, 0, 0, 0}},
		{strings.Repeat(":- begin. ", 8) + strings.Repeat(":- end. ", 8), "", []api.Errno{0, 0, 0, 0, 0, 0, 26, 26, 0, 0, 0, 0, 0, 0, 26, 26}},
	} {
		s, told := texted(t, c.text)
		var l []string
		for _, o := range s.Env.Opers {
			l = append(l, o.Pattern)
		}
		if strings.Join(l, " ") != c.opers || !slices.Equal(told, c.told) {
			t.Errorf("%q: %q, %d, not %q, %d", c.text, l, told, c.opers, c.told)
		}
	}
	for n := range 20 {
		text := ""
		for i := range n {
			text += ":- op(3, left, '_" + strings.Repeat("+", i+1) + "_').\n"
		}
		s, told := texted(t, text)
		if len(s.Env.Opers) != min(n, 16) || slices.ContainsFunc(told[min(n, 16):], func(e api.Errno) bool { return e != api.ErrFull }) {
			t.Errorf("%d operators: %+v, %d", n, s, told)
		}
	}
}

// P16.2, R6: any directive in any scope, which need not come from Start, is told twice alike.
func TestAny(t *testing.T) {
	for seed := range uint64(20000) {
		c := rand.New(rand.NewPCG(seed, 160))
		s := api.Scope{Env: anyEnv(c)}
		for range c.IntN(9) {
			s.Stack = append(s.Stack, anyEnv(c))
		}
		d := anyDecl(c)
		one, first := step(t, s, d)
		two, second := step(t, s, d)
		if !same(one, two) || first != second {
			t.Errorf("%+v of %+v: %+v, %d, then %+v, %d", d, s, one, first, two, second)
		}
		if t.Failed() {
			return
		}
	}
}

// P16.3: along many directives at random, some of which may not be, the scope behind each end is the one ahead of its beginning, but for what was wrong, which changes nothing.
func TestWalk(t *testing.T) {
	told := map[api.Errno]int{}
	ended, deepest := 0, 0
	for seed := range uint64(300) {
		c := rand.New(rand.NewPCG(seed, 163))
		s := scope.Start()
		var open []api.Scope
		for range 200 {
			d := anyDecl(c)
			u, code := step(t, s, d)
			told[code]++
			switch {
			case code != api.OK:
				continue
			case d.Kind == api.DrBegin:
				open = append(open, copied(s))
			case d.Kind == api.DrEnd:
				ended++
				if !same(u, open[len(open)-1]) {
					t.Fatalf("behind an end: %+v, not %+v", u, open[len(open)-1])
				}
				open = open[:len(open)-1]
			}
			s = u
			if deepest = max(deepest, len(open)); len(s.Stack) != len(open) {
				t.Fatalf("in %d blocks: %+v", len(open), s)
			}
		}
	}
	for _, code := range []api.Errno{api.OK, api.ErrNone, api.ErrFull, api.ErrDirective, api.ErrGroup, api.ErrPattern, api.ErrAssoc, api.ErrCycle, api.ErrScope} {
		if told[code] < 50 {
			t.Errorf("error %d is told %d times", code, told[code])
		}
	}
	if ended < 500 || deepest != 6 {
		t.Errorf("%d ends, and at most %d blocks in one another", ended, deepest)
	}
}

// lists is all operators that a scope has room for, list by list: the env's, then those of the stack's envs.
func lists(s api.Scope) [][]api.Oper {
	l := [][]api.Oper{s.Env.Opers[:cap(s.Env.Opers)]}
	for _, e := range s.Stack[:cap(s.Stack)] {
		l = append(l, e.Opers[:cap(e.Opers)])
	}
	return l
}

// spoil writes over all that a scope has, and has room for.
func spoil(s api.Scope) {
	for _, l := range lists(s) {
		for i := range l {
			l[i] = api.Oper{Pattern: "spoilt", Group: -1}
		}
	}
	for i := range s.Stack[:cap(s.Stack)] {
		s.Stack[:cap(s.Stack)][i] = api.Env{Opers: []api.Oper{{Pattern: "spoilt"}}}
	}
}

// roomy is s, each of its lists with room for more.
func roomy(s api.Scope, room int) api.Scope {
	more := func(l []api.Oper) []api.Oper { return append(make([]api.Oper, 0, len(l)+room), l...) }
	u := api.Scope{Env: api.Env{Opers: more(s.Env.Opers), Rows: s.Env.Rows}, Stack: make([]api.Env, 0, len(s.Stack)+room)}
	for _, e := range s.Stack {
		u.Stack = append(u.Stack, api.Env{Opers: more(e.Opers), Rows: e.Rows})
	}
	return u
}

// R7: what is told, what was handed in, and another answer do not see what becomes of one another, nor do two lists of one answer.
func TestOwn(t *testing.T) {
	calls := []api.Decl{adds("_+_", 3, 1), adds("c_", 3, 1), adds("b_", 9, 2), drops("a_"), drops("b_"), drops("c_"), ties(7, 3), ties(1, 2), begins, ends, {}}
	for _, d := range calls {
		for blocks := range 8 {
			for _, room := range []int{0, 1, 8} {
				s := roomy(within(of("a_", "b_"), blocks), room)
				one, _ := scope.Step(s, d)
				two, _ := scope.Step(s, d)
				kept := copied(two)
				for _, l := range append(lists(s)[1+blocks:], lists(s)[0][2:]) {
					if len(l) > 0 && slices.ContainsFunc(l, func(o api.Oper) bool { return o != api.Oper{} }) {
						t.Errorf("%+v in %d blocks, with room for %d, has written behind what was handed in", d, blocks, room)
					}
				}
				spoil(one)
				if !same(two, kept) || !same(s, within(of("a_", "b_"), blocks)) {
					t.Errorf("%+v in %d blocks, with room for %d: an answer that is written over has made %+v, of %+v", d, blocks, room, two, s)
				}
				spoil(s)
				if !same(two, kept) {
					t.Errorf("%+v in %d blocks, with room for %d: what was handed in and is written over has made %+v", d, blocks, room, two)
				}
				alone(t, two)
			}
		}
	}
}

// alone holds that of the lists of s none sees what is written into another one.
func alone(t *testing.T, s api.Scope) {
	t.Helper()
	for i, l := range lists(s) {
		for k := range l {
			l[k].Group = 100 + i
		}
	}
	for i, l := range lists(s) {
		for _, o := range l {
			if o.Group != 100+i {
				t.Errorf("list %d of %+v is written into as list %d", i, s, o.Group-100)
			}
		}
	}
}

// R7: nor does Start tell twice what is one.
func TestOwnStart(t *testing.T) {
	s := scope.Start()
	s.Env.Rows[7] = -1
	s.Env.Opers = append(s.Env.Opers, api.Oper{Pattern: "a_"})
	s.Stack = append(s.Stack, of("b_"))
	if !same(scope.Start(), api.Scope{Env: of()}) {
		t.Errorf("Start() = %+v", scope.Start())
	}
}

// R1: blocks and operators without number, each directive.
func TestLarge(t *testing.T) {
	many := of(slices.Repeat([]string{"a_", "b_"}, 1<<12)...)
	s := within(many, 1<<10)
	for kind := range 7 {
		d := adds("a_", 9, 2)
		d.Kind, d.G, d.H = kind, 7, 3
		want, code := wanted(s, d)
		if got, told := scope.Step(s, d); !same(got, want) || told != code {
			t.Errorf("kind %d: %d operators, %d blocks, %d", kind, len(got.Env.Opers), len(got.Stack), told)
		}
	}
	if u, code := scope.Step(s, ends); code != api.OK || len(u.Stack) != 1<<10-1 || !sameEnv(u.Env, s.Stack[1<<10-1]) {
		t.Errorf("%d blocks, %d", len(u.Stack), code)
	}
}
