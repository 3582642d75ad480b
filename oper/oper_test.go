package oper_test

import (
	"math"
	"math/rand/v2"
	"slices"
	"strings"
	"testing"

	"tmesis/api"
	"tmesis/oper"
	"tmesis/shape"
)

// good is patterns that have a shape: with holes at both ends, at one of them, and at none.
var good = []string{
	"_+_", "_?_:_", "_a_", "_a_b_c_d_",
	"-_", "if_then_else_", "[_]_", "\xc3\xa9_",
	"_!", "_[_]", "_is_done", "_a_b_c_d",
	"[_]", "a_a", "begin_end", "|_|",
}

// bad is patterns that have none.
var bad = []string{"", "_", "__", "a", "+", "a__b", "_a__", "(_)", "_,_", "_:-_", "_._", "_X_", "_1", "'a'_", "a b_", " a_", "_a_b_c_d_e", "a_\xff", "_" + strings.Repeat("a", 40)}

// far is numbers of all sizes: each that the document names, its neighbours and opposites, and the ends of int.
func far() []int {
	out := []int{math.MinInt, math.MinInt + 1, math.MaxInt, math.MaxInt - 1, 1 << 31, -1 << 31, 1<<31 - 1, 1 << 32, 1<<32 + 1, 1<<32 + 2, 1 << 62, 1<<63 - 9, 255, 256, 257, 65536, 65537}
	for i := -20; i <= 20; i++ {
		out = append(out, i)
	}
	return out
}

// wanted is what May has to tell, told from the pattern's bytes at its ends.
func wanted(o api.Oper, has bool) api.Errno {
	if !has {
		return 23
	}
	groups := []int{1, 2, 3, 4, 5, 6, 7, 8, 9}
	if !slices.Contains(groups, o.Group) {
		return 21
	}
	sides := []bool{true, strings.HasPrefix(o.Pattern, "_"), strings.HasSuffix(o.Pattern, "_")}
	if o.Assoc < 0 || o.Assoc > 2 || !sides[o.Assoc] {
		return 24
	}
	return 0
}

// may holds May of o against what it has to tell.
func may(t *testing.T, o api.Oper, has bool) {
	t.Helper()
	if e, want := oper.May(o), wanted(o, has); e != want {
		t.Errorf("May(%+v) = %d, not %d", o, e, want)
	}
}

// P12.1: which operators may be: of each shape, with the groups and the associativities at the bounds, and of errors the first one.
func TestMayTable(t *testing.T) {
	for _, c := range []struct {
		pattern      string
		group, assoc int
		want         api.Errno
	}{
		{"_+_", 1, 0, 0}, {"_+_", 1, 1, 0}, {"_+_", 1, 2, 0}, {"_+_", 9, 1, 0}, {"_+_", 5, 2, 0}, {"_+_", 6, 0, 0}, // holes at both ends
		{"-_", 1, 0, 0}, {"-_", 1, 1, 24}, {"-_", 1, 2, 0}, // at the right end alone
		{"_!", 1, 0, 0}, {"_!", 1, 1, 0}, {"_!", 1, 2, 24}, // at the left end alone
		{"[_]", 1, 0, 0}, {"[_]", 1, 1, 24}, {"[_]", 1, 2, 24}, // at none
		{"if_then_", 4, 1, 24}, {"if_then_", 4, 2, 0}, {"_is_done", 4, 1, 0}, {"_is_done", 4, 2, 24},
		{"_+_", 0, 0, 21}, {"_+_", 10, 0, 21}, {"_+_", -1, 0, 21}, {"_+_", 11, 0, 21}, // groups
		{"_+_", 1, 3, 24}, {"_+_", 1, -1, 24}, {"_+_", 9, 4, 24}, // associativities
		{"+", 1, 0, 23}, {"", 1, 0, 23}, {"_", 9, 1, 23}, {"_(_", 1, 1, 23}, {"_a b_", 1, 0, 23}, {"A_", 1, 2, 23}, // patterns
		{"", 0, 0, 23}, {"+", 0, 9, 23}, {"+", 10, 1, 23}, {"+", 1, 3, 23}, {"-_", 0, 1, 21}, {"_!", 10, 2, 21}, {"_+_", 0, 3, 21}, {"_+_", -1, -1, 21}, // several
	} {
		o := api.Oper{Pattern: c.pattern, Group: c.group, Assoc: c.assoc}
		if e := oper.May(o); e != c.want {
			t.Errorf("May(%+v) = %d, not %d", o, e, c.want)
		}
	}
	if e := oper.May(api.Oper{}); e != api.ErrPattern {
		t.Errorf("May of no operator at all = %d", e)
	}
}

// P12.1, R1, R3: every pattern with every group and every associativity, of all sizes.
func TestMayAll(t *testing.T) {
	numbers := far()
	for _, g := range numbers {
		for _, a := range numbers {
			for _, p := range good {
				may(t, api.Oper{Pattern: p, Group: g, Assoc: a}, true)
			}
			for _, p := range bad {
				may(t, api.Oper{Pattern: p, Group: g, Assoc: a}, false)
			}
		}
	}
}

// P12.1: the patterns that may be are those that have a shape, whatever the bytes; the longest ones too.
func TestMayPatterns(t *testing.T) {
	check := func(pattern string) {
		_, e := shape.Of(pattern)
		for a := range 3 {
			may(t, api.Oper{Pattern: pattern, Group: 1 + a*4, Assoc: a}, e == api.OK)
		}
	}
	for i := range 256 {
		for _, form := range []string{"X_", "_X", "_X_", "a_X", "Xa_", "_aX_", "_a_X_b"} {
			check(strings.ReplaceAll(form, "X", string([]byte{byte(i)})))
		}
	}
	for n := range 50 {
		may(t, api.Oper{Pattern: strings.Repeat("a", n) + "_", Group: 1, Assoc: api.AsRight}, n > 0 && n < 40)
		may(t, api.Oper{Pattern: "_" + strings.Repeat("+", n), Group: 9, Assoc: api.AsLeft}, n > 0 && n < 40)
	}
	words := []string{"_", "_", "_", "a", "+", "if", "[", "]", "(", ",", ".", ":-", " ", "X", "12", "\xff", "\xc3\xa9", "/*", "%", "'"}
	for seed := range uint64(20000) {
		c := rand.New(rand.NewPCG(seed, 12))
		var pattern strings.Builder
		for range c.IntN(8) {
			pattern.WriteString(words[c.IntN(len(words))])
		}
		check(pattern.String())
	}
	for _, each := range []string{"_", "a", "a_", "(", "\x00", "'"} {
		may(t, api.Oper{Pattern: strings.Repeat(each, 1<<16), Group: 1}, false)
	}
}

// simple holds Simple of kind and name against what it has to tell.
func simple(t *testing.T, kind, name, want string, assoc int, code api.Errno) {
	t.Helper()
	if p, a, e := oper.Simple(kind, name); p != want || a != assoc || e != code {
		t.Errorf("Simple(%.30q, %.30q) = %.30q, %d, %d, not %.30q, %d, %d", kind, name, p, a, e, want, assoc, code)
	}
}

// told is the chapter's table: of a kind, its pattern, with N for the name, and its associativity.
var told = map[string]struct {
	pattern string
	assoc   int
}{
	"xfx": {"_N_", 0}, "xfy": {"_N_", 2}, "yfx": {"_N_", 1},
	"fx": {"N_", 0}, "fy": {"N_", 2},
	"xf": {"_N", 0}, "yf": {"_N", 1},
}

// P12.2: the chapter's example, and each kind with names of each sort; what the name is, but for its marks, is not asked.
func TestSimpleKinds(t *testing.T) {
	simple(t, "yfx", "+", "_+_", api.AsLeft, api.OK)
	names := []string{"+", "-", "not", "N", "NN", "xfx", "\xc3\xa9", "(", ",", ".", ":-", "X", "12", " ", "a b", "'", "\x00", "\xff", "-", "%", "/*", strings.Repeat("a", 39), strings.Repeat("a", 41), strings.Repeat("+", 1<<16)}
	for i := range 256 {
		if i != '_' {
			names = append(names, string([]byte{byte(i)}), string([]byte{'a', byte(i)}), string([]byte{byte(i), '+'}))
		}
	}
	for kind, k := range told {
		for _, name := range names {
			simple(t, kind, name, strings.Replace(k.pattern, "N", name, 1), k.assoc, api.OK)
		}
	}
}

// P12.2: a name with a mark, or none at all, has no pattern, beside a kind that there is.
func TestSimpleNames(t *testing.T) {
	for kind := range told {
		for _, name := range []string{"", "_", "__", "_a", "a_", "a_b", "_+_", "+_", " _ ", "\xff_", "a__b", "(_)", strings.Repeat("a", 1<<16) + "_", strings.Repeat("_", 1<<16)} {
			simple(t, kind, name, "", 0, api.ErrPattern)
		}
		for i := range 256 {
			simple(t, kind, string([]byte{byte(i), '_'}), "", 0, api.ErrPattern)
			simple(t, kind, string([]byte{'_', byte(i)}), "", 0, api.ErrPattern)
		}
	}
}

// P12.2, R3: all words of a few letters, of which seven are a kind; a kind that there is not is told ahead of a name that may not be.
func TestSimpleTypes(t *testing.T) {
	kinds := 0
	check := func(kind string) {
		k, ok := told[kind]
		if ok {
			kinds++
			simple(t, kind, "+", strings.Replace(k.pattern, "N", "+", 1), k.assoc, api.OK)
			simple(t, kind, "", "", 0, api.ErrPattern)
			simple(t, kind, "a_b", "", 0, api.ErrPattern)
			return
		}
		for _, name := range []string{"+", "not", "", "_", "a_b"} {
			simple(t, kind, name, "", 0, api.ErrType)
		}
	}
	words := []string{""}
	for i := 0; i < len(words); i++ {
		check(words[i])
		if len(words[i]) < 4 {
			for _, c := range "xfyz_ XF\x00" {
				words = append(words, words[i]+string(c))
			}
		}
	}
	if kinds != 7 {
		t.Errorf("%d kinds", kinds)
	}
	for _, kind := range []string{"yfy", "zz", "xfx ", " fx", "xfxx", "fxf", "XFX", "\xff", "_", "_+_", strings.Repeat("xfx", 1<<14)} {
		check(kind)
	}
	for kind := range told {
		for i := range 256 {
			for k := range kind {
				b := []byte(kind)
				b[k] = byte(i)
				check(string(b))
			}
			check(kind + string([]byte{byte(i)}))
			check(string([]byte{byte(i)}) + kind)
		}
	}
}

// P12.1, P12.2: what Simple tells may be, in each group, if the name may be a part.
func TestSimpleMay(t *testing.T) {
	for kind := range told {
		for _, name := range []string{"+", "not", "[", "\xc3\xa9", "=..", strings.Repeat("a", 38)} {
			p, a, e := oper.Simple(kind, name)
			for g := 1; g < 10; g++ {
				if f := oper.May(api.Oper{Pattern: p, Group: g, Assoc: a}); e != api.OK || f != api.OK {
					t.Errorf("%q of %q: %q, %d, %d; in group %d: %d", kind, name, p, a, e, g, f)
				}
			}
		}
		for _, name := range []string{"(", ")", ",", ".", ":-", "X", "1", "'a'", "a b", " ", "%", "/*", "\xff", strings.Repeat("a", 40)} {
			p, a, e := oper.Simple(kind, name)
			if f := oper.May(api.Oper{Pattern: p, Group: 1, Assoc: a}); e != api.OK || f != api.ErrPattern {
				t.Errorf("%q of %q: %q, %d, %d; %d", kind, name, p, a, e, f)
			}
		}
	}
}

// R6: a second call tells the same, whatever was asked between.
func TestAgain(t *testing.T) {
	for range 3 {
		for kind, k := range told {
			simple(t, kind, "a", strings.Replace(k.pattern, "N", "a", 1), k.assoc, api.OK)
			simple(t, kind+"f", "a", "", 0, api.ErrType)
			simple(t, kind, "_", "", 0, api.ErrPattern)
		}
		for _, p := range good {
			for g := range 12 {
				for a := range 4 {
					may(t, api.Oper{Pattern: p, Group: g, Assoc: a}, true)
				}
			}
		}
	}
}
