package shape_test

import (
	"math/rand/v2"
	"slices"
	"strings"
	"testing"
	"unicode/utf8"

	"tmesis/api"
	"tmesis/shape"
)

// The bytes of some classes, as the document tells them; `_` is left out, as no part has it.
const (
	lowers  = "abcdefghijklmnopqrstuvwxyz"
	uppers  = "ABCDEFGHIJKLMNOPQRSTUVWXYZ"
	numbers = "0123456789"
	symbols = `+-*/\^<>=~:.?@#&$!`
	solos   = "|;[]{}" // without the three that may not be parts
)

// hard has a byte of each class, both of a sequence, the marks of a comment, the period, and the mark of a hole.
const hard = "_aA1.*/-:'(]% \n\xc3\xa9\x00"

// lists calls do with all lists of at most most members of pool.
func lists[T any](pool []T, most int, do func(l []T)) {
	var more func(l []T)
	more = func(l []T) {
		do(l)
		if len(l) == most {
			return
		}
		for _, x := range pool {
			more(append(slices.Clone(l), x))
		}
	}
	more(nil)
}

// only tells whether s has bytes, and only these.
func only(s, of string) bool {
	return s != "" && strings.Trim(s, of) == ""
}

// named tells whether s is a name that begins with a small letter, or with a sequence of more than one byte.
func named(s string) bool {
	if s == "" || !utf8.ValidString(s) || !strings.Contains(lowers, s[:1]) && s[0] < 0x80 {
		return false
	}
	return !strings.ContainsFunc(s, func(r rune) bool { return r < 0x80 && !strings.ContainsRune(lowers+uppers+numbers, r) })
}

// part tells whether s may be a part.
func part(s string) bool {
	switch {
	case s == "." || s == ":-" || strings.HasPrefix(s, "/*"):
		return false
	case only(s, symbols):
		return true
	case len(s) == 1 && strings.Contains(solos, s):
		return true
	}
	return named(s)
}

// may tells whether s may be, told from its fields alone.
func may(s api.Shape) bool {
	holes, size := 0, 0
	for i, p := range s.Parts {
		if !part(p) {
			return false
		}
		size += len(p)
		holes += min(i, 1)
	}
	for _, end := range []bool{s.Left, s.Right} {
		if end {
			holes++
		}
	}
	return len(s.Parts) >= 1 && len(s.Parts) <= 4 && holes > 0 && size+holes <= 40
}

// cuts is all ways to tell s as parts with a mark between two of them, marks within a part among them; and no parts at all, if s is empty.
func cuts(s string) [][]string {
	out := [][]string{{s}}
	for i := range len(s) {
		if s[i] != '_' {
			continue
		}
		for _, l := range cuts(s[i+1:]) {
			if len(l) > 0 {
				out = append(out, append([]string{s[:i]}, l...))
			}
		}
	}
	if s == "" {
		out = append(out, nil)
	}
	return out
}

// shapes is all shapes of which pattern is the text, whether or not they may be.
func shapes(pattern string) []api.Shape {
	var out []api.Shape
	for _, left := range []string{"", "_"} {
		for _, right := range []string{"", "_"} {
			if len(pattern) < len(left+right) || !strings.HasPrefix(pattern, left) || !strings.HasSuffix(pattern, right) {
				continue
			}
			for _, l := range cuts(pattern[len(left) : len(pattern)-len(right)]) {
				out = append(out, api.Shape{Parts: l, Left: left != "", Right: right != ""})
			}
		}
	}
	return out
}

// same tells whether s and u are the same shape.
func same(s, u api.Shape) bool {
	return s.Left == u.Left && s.Right == u.Right && slices.Equal(s.Parts, u.Parts)
}

// zero tells whether s is no shape at all.
func zero(s api.Shape) bool {
	return len(s.Parts) == 0 && !s.Left && !s.Right
}

// check holds Of of pattern against the one of its shapes that may be, Text of each of them against pattern, and P11.4: that no two may be.
func check(t *testing.T, pattern string) {
	t.Helper()
	var want []api.Shape
	for _, s := range shapes(pattern) {
		if text := shape.Text(s); text != pattern {
			t.Fatalf("Text(%+v) = %q, not %q", s, text, pattern)
		}
		if may(s) {
			want = append(want, s)
		}
	}
	s, e := shape.Of(pattern)
	switch {
	case len(want) > 1:
		t.Fatalf("%q is the text of %+v", pattern, want)
	case len(want) == 0 && (e != 23 || !zero(s)):
		t.Fatalf("Of(%q) = %+v, %d, but there is none", pattern, s, e)
	case len(want) == 1 && (e != 0 || !same(s, want[0])):
		t.Fatalf("Of(%q) = %+v, %d, not %+v", pattern, s, e, want[0])
	}
}

// refused holds Of of pattern against ErrPattern, and nothing beside it.
func refused(t *testing.T, pattern string) {
	t.Helper()
	if s, e := shape.Of(pattern); e != 23 || !zero(s) {
		t.Errorf("Of of %d bytes, %.50q, = %+v, %d", len(pattern), pattern, s, e)
	}
}

// P11.3: the examples of the chapter.
func TestExamples(t *testing.T) {
	for pattern, want := range map[string]api.Shape{
		"if_then_": {Parts: []string{"if", "then"}, Right: true},
		"_!":       {Parts: []string{"!"}, Left: true},
		"[_]":      {Parts: []string{"[", "]"}},
	} {
		if s, e := shape.Of(pattern); !same(s, want) || e != api.OK {
			t.Errorf("Of(%q) = %+v, %d", pattern, s, e)
		}
	}
	for _, pattern := range []string{"_", "a", "a__b"} {
		refused(t, pattern)
	}
}

// P11.1: Text of any shape: with holes at each end or none, with no parts, with parts that may not be, and with more than may be.
func TestText(t *testing.T) {
	for _, c := range []struct {
		parts []string
		want  [4]string // without a hole at an end, with one at the left, at the right, at both
	}{
		{nil, [4]string{"", "_", "_", "__"}},
		{[]string{}, [4]string{"", "_", "_", "__"}},
		{[]string{""}, [4]string{"", "_", "_", "__"}},
		{[]string{"", ""}, [4]string{"_", "__", "__", "___"}},
		{[]string{"_"}, [4]string{"_", "__", "__", "___"}},
		{[]string{"", "_"}, [4]string{"__", "___", "___", "____"}},
		{[]string{"a"}, [4]string{"a", "_a", "a_", "_a_"}},
		{[]string{"a_b"}, [4]string{"a_b", "_a_b", "a_b_", "_a_b_"}},
		{[]string{"a", "b"}, [4]string{"a_b", "_a_b", "a_b_", "_a_b_"}},
		{[]string{"b", "a", "b"}, [4]string{"b_a_b", "_b_a_b", "b_a_b_", "_b_a_b_"}},
		{[]string{"(", "1 X", "'", "\xff\x00", "."}, [4]string{"(_1 X_'_\xff\x00_.", "_(_1 X_'_\xff\x00_.", "(_1 X_'_\xff\x00_._", "_(_1 X_'_\xff\x00_._"}},
	} {
		for i, want := range c.want {
			s := api.Shape{Parts: c.parts, Left: i&1 != 0, Right: i&2 != 0}
			if text := shape.Text(s); text != want {
				t.Errorf("Text(%+v) = %q, not %q", s, text, want)
			}
		}
	}
	const many = 1 << 17
	long := api.Shape{Parts: slices.Repeat([]string{"ab"}, many), Right: true}
	if text := shape.Text(long); text != strings.Repeat("ab_", many) {
		t.Errorf("Text of %d parts has %d bytes", many, len(text))
	}
}

// P11.2, P11.3: which patterns have a shape: of each kind of part, at each end, and what is near to one, but none.
func TestOf(t *testing.T) {
	for pattern, want := range map[string]api.Shape{
		"_+_":                             {Parts: []string{"+"}, Left: true, Right: true},
		"-_":                              {Parts: []string{"-"}, Right: true},
		"_a":                              {Parts: []string{"a"}, Left: true},
		"a_b":                             {Parts: []string{"a", "b"}},
		"a_a":                             {Parts: []string{"a", "a"}}, // parts need not be unlike
		"_a_a_a_a_":                       {Parts: []string{"a", "a", "a", "a"}, Left: true, Right: true},
		"a_b_c_d":                         {Parts: []string{"a", "b", "c", "d"}},
		"_?_:_":                           {Parts: []string{"?", ":"}, Left: true, Right: true},
		"{_":                              {Parts: []string{"{"}, Right: true},
		"_|_;_[_]_":                       {Parts: []string{"|", ";", "[", "]"}, Left: true, Right: true},
		"_}":                              {Parts: []string{"}"}, Left: true},
		"aB1_":                            {Parts: []string{"aB1"}, Right: true},
		"_.._":                            {Parts: []string{".."}, Left: true, Right: true},
		"_=._":                            {Parts: []string{"=."}, Left: true, Right: true},
		"_:_":                             {Parts: []string{":"}, Left: true, Right: true},
		"_:--_":                           {Parts: []string{":--"}, Left: true, Right: true},
		"_-:_":                            {Parts: []string{"-:"}, Left: true, Right: true},
		"_:_-_":                           {Parts: []string{":", "-"}, Left: true, Right: true},
		"_*/_":                            {Parts: []string{"*/"}, Left: true, Right: true},
		"_+/*_":                           {Parts: []string{"+/*"}, Left: true, Right: true}, // no comment: its mark is of the symbol
		"_\\^<>~@#&$!/_":                  {Parts: []string{"\\^<>~@#&$!/"}, Left: true, Right: true},
		"\xc3\xa9_":                       {Parts: []string{"\xc3\xa9"}, Right: true},
		"a\xe2\x82\xacB_\xf0\x9f\x98\x80": {Parts: []string{"a\xe2\x82\xacB", "\xf0\x9f\x98\x80"}},
	} {
		check(t, pattern)
		s, e := shape.Of(pattern)
		if !same(s, want) || e != api.OK {
			t.Errorf("Of(%q) = %+v, %d, not %+v", pattern, s, e, want)
		}
	}
	for _, pattern := range []string{
		"", "_", "__", "___", "_____", // no parts
		"a", "+", "[", "\xc3\xa9", // no holes
		"a__b", "__a", "a__", "_a__", "__a_", "_+__", "a_b__c", "a___b", // two marks side by side
		"a_b_c_d_e", "_a_b_c_d_e_", "_a_b_c_d_e", "a_b_c_d_e_f_g", // too many parts
		"(_", "_)", "(_)", "_,_", "_._", "._", "_.", "_:-_", ":-_", "[_,_]", "a_(", "f_(_)", "_._.a", // what is no part
		"A_", "_X", "aB_Ab", "1_", "_1a", "a_12_b", "99999999999_", // kinds that are no names
		"'a'_", "_'", "''_", "a_'b'", "'a_b'", "'_'", "'_a",
		"a b_", "a+_", "+a_", "[]_", "[[_", "((_", ":-a_", "a1+_", ";;_", "+\xc3\xa9_", // two tokens
		" a_", "a _", "a_ b", "a_b ", " _a", "_ _", "_ ", " _", "\ta_", "a\n_", "_\ra_", "a_ _b", // layout beside a part, or in its place
		"%_", "_%a", "a%_", "a_%b", "+%b_", "/*_", "/**/_", "/*_*/", "a/**/_", "/**/a_", "a_/*", "+_/* */", "a/*_", // comments
		"_\xff", "\xc3_", "a\xc3_", "_\xa9", "\xc3_\xa9", "\xed\xa0\x80_", "\xc0\x80_", "\xf4\x90\x80\x80_", // bytes that are no UTF-8
		"\x00_", "_\x7f", "a\x00_", "\"_", "_`_",
	} {
		check(t, pattern)
		refused(t, pattern)
	}
}

// P11.2: parts of all holes, with each of the names that may not be one beside names that begin or end alike.
func TestForbidden(t *testing.T) {
	for _, name := range []string{"(", ")", ",", ".", ":-"} {
		for _, form := range []string{"X_", "_X", "_X_", "X_a", "a_X", "_a_X_", "X_X", "a_X_b", "a_b_c_X", "X_b_c_d"} {
			pattern := strings.ReplaceAll(form, "X", name)
			check(t, pattern)
			refused(t, pattern)
			for _, beside := range []string{"+", "a", "[", ".", "-", " "} {
				check(t, strings.ReplaceAll(form, "X", name+beside))
				check(t, strings.ReplaceAll(form, "X", beside+name))
			}
		}
	}
}

// P11.2: forty bytes, and no more, holes among them; bytes, not runes.
func TestSize(t *testing.T) {
	for _, c := range []struct {
		ahead, each, behind string // each is there as often as it takes
	}{
		{"", "a", "_"},
		{"_", "a", ""},
		{"_", "+", "_"},
		{"a_", "b", ""},
		{"a", "\xc3\xa9", "_"},
		{"", "\xc3\xa9", "_"},
		{"_a_b_c_", "\xe2\x82\xac", ""},
		{"_if_then_else_", "\xf0\x9f\x98\x80", "_"},
		{"[_a", "A", "_]"},
	} {
		most := 0
		for n := range 60 {
			pattern := c.ahead + strings.Repeat(c.each, n) + c.behind
			check(t, pattern)
			if s, e := shape.Of(pattern); e == api.OK {
				most = max(most, len(pattern))
				if shape.Text(s) != pattern {
					t.Errorf("Text of Of(%q) = %q", pattern, shape.Text(s))
				}
			}
		}
		if most > 40 || most+len(c.each) <= 40 {
			t.Errorf("%q is found with %d bytes at most", c, most)
		}
	}
	refused(t, strings.Repeat("a", 40)+"_")
	refused(t, "_"+strings.Repeat("a", 40))
	if s, e := shape.Of(strings.Repeat("a", 39) + "_"); e != api.OK || len(s.Parts) != 1 || len(s.Parts[0]) != 39 {
		t.Errorf("%+v, %d", s, e)
	}
}

// P11.2, P11.3, P11.4: all patterns of a few bytes, one at least of each class, and of marks beside what is a part or not.
func TestShortPatterns(t *testing.T) {
	lists([]byte(hard), 4, func(b []byte) { check(t, string(b)) })
	lists([]byte("_a+"), 8, func(b []byte) { check(t, string(b)) })
	lists([]string{"_", "a", "B", "+", ".", ":-", "[", "(", "/*", "if", " "}, 5, func(l []string) { check(t, strings.Join(l, "")) })
}

// P11.2: every byte as a part, within one, beside one, and every pair of bytes as a part.
func TestEachByte(t *testing.T) {
	for i := range 256 {
		c := string([]byte{byte(i)})
		for _, form := range []string{"X", "X_", "_X", "_X_", "aX_", "Xa_", "+X_", "X+_", "_aXa", "a_X", "X_a", "_a_X_b_", "a_bX", "\xc3X_", "X\xa9_"} {
			check(t, strings.ReplaceAll(form, "X", c))
		}
		for k := range 256 {
			check(t, string([]byte{byte(i), byte(k), '_'}))
		}
	}
}

// P11.4: of all shapes of some parts, the ones that may be are each found from their own text, which no other one has.
func TestUnlike(t *testing.T) {
	from := map[string]api.Shape{}
	lists([]string{"a", "aa", "b", "+", "++", "[", "]", "if", "\xc3\xa9", "+-", ".."}, 4, func(l []string) {
		for i := range 4 {
			s := api.Shape{Parts: l, Left: i&1 != 0, Right: i&2 != 0}
			if !may(s) {
				continue
			}
			text := shape.Text(s)
			if u, ok := from[text]; ok {
				t.Fatalf("%q is the text of %+v and of %+v", text, u, s)
			}
			from[text] = s
			if u, e := shape.Of(text); e != api.OK || !same(u, s) {
				t.Fatalf("Of(%q) = %+v, %d, not %+v", text, u, e, s)
			}
		}
	})
	if len(from) != 4*(11+11*11+11*11*11+11*11*11*11)-11 { // of a single part there is none without a hole
		t.Errorf("%d shapes", len(from))
	}
}

// P11.2, R1: long patterns, and whatever comes.
func TestLongPatterns(t *testing.T) {
	for _, each := range []string{"_", "a", "+", "a_", "_a", "[_]", "/*", "'", "(", "\xff", "\xc3\xa9", "% ", "1", " "} {
		refused(t, strings.Repeat(each, 1<<16))
		refused(t, "_"+strings.Repeat(each, 1<<16)+"_")
	}
	words := []string{"_", "_", "_", "_", "a", "bC", "+", ":-", "12", "'q'", "(", "[", ",", ".", "..", " ", "% c", "/*", "*/", "\x00", "\xff", "\xc3\xa9", "X", "if", "|", "="}
	for seed := range uint64(20000) {
		c := rand.New(rand.NewPCG(seed, 11))
		var pattern strings.Builder
		for range c.IntN(9) {
			pattern.WriteString(words[c.IntN(len(words))])
		}
		check(t, pattern.String())
	}
}

// R6, R7: what is handed in is not changed, a second call tells the same, and neither answer sees what becomes of the other one.
func TestOwn(t *testing.T) {
	for _, pattern := range []string{"_a_b_c_d_", "[_]", "_+_", "-_", "a_\xc3\xa9_b"} {
		one, e := shape.Of(pattern)
		two, f := shape.Of(pattern)
		if e != api.OK || f != api.OK || !same(one, two) {
			t.Fatalf("Of(%q) = %+v, %d, and %+v, %d", pattern, one, e, two, f)
		}
		kept := slices.Clone(one.Parts)
		text := shape.Text(one)
		if !slices.Equal(one.Parts, kept) || shape.Text(one) != text || text != pattern {
			t.Fatalf("%q: %q, %q, when it was asked", pattern, one.Parts, text)
		}
		_ = append(one.Parts, "#")
		clear(one.Parts[:cap(one.Parts)])
		if !slices.Equal(two.Parts, kept) || text != pattern {
			t.Errorf("%q: %q, %q, when the other one is written over", pattern, two.Parts, text)
		}
		if again, _ := shape.Of(pattern); !slices.Equal(again.Parts, kept) {
			t.Errorf("%q: %q, when an answer is written over", pattern, again.Parts)
		}
	}
	parts := []string{"a", "b", "#", "#"}
	if text := shape.Text(api.Shape{Parts: parts[:2], Left: true, Right: true}); text != "_a_b_" || !slices.Equal(parts, []string{"a", "b", "#", "#"}) {
		t.Errorf("%q, %q", text, parts)
	}
}
