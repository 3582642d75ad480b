package rope_test

import (
	"bytes"
	"math"
	"math/rand/v2"
	"slices"
	"strings"
	"sync"
	"testing"

	"tmesis/api"
	"tmesis/rope"
)

// full is how many bytes a rope has, at most, as the document tells it.
const full = 2048

// far are numbers that are no place of any rope.
var far = []int{-1, -2, -64, -full, math.MinInt, math.MinInt + 1, full + 1, 1 << 32, math.MaxInt - 1, math.MaxInt}

// sizes are how many bytes a text may have: few, many, and some beside powers of two.
var sizes = []int{0, 1, 2, 3, 7, 31, 32, 33, 63, 64, 65, 127, 128, 129, 130, 255, 256, 257, 500, 511, 512, 513, 1000, 1023, 1024, 1025, 2000, 2046, 2047, 2048}

// bytesOf is n bytes, all 256 among them if n is great enough, such that those near to each other are unlike.
func bytesOf(n int) []byte {
	b := make([]byte, n)
	for i := range b {
		b[i] = byte(i*167 + i/256*11)
	}
	return b
}

// fresh is a new rope of s.
func fresh(t *testing.T, s string) *rope.Rope {
	t.Helper()
	r, e := rope.New([]byte(s))
	if r == nil || e != 0 {
		t.Fatalf("New of %d bytes = %v, %d", len(s), r, e)
	}
	return r
}

// text is all bytes of r.
func text(t *testing.T, r *rope.Rope) string {
	t.Helper()
	b, e := r.Slice(0, r.Len())
	if e != 0 {
		t.Fatalf("Slice of all %d bytes tells %d", r.Len(), e)
	}
	return string(b)
}

// sliced is what Slice has to tell of a rope of s.
func sliced(s string, from, to int) (string, api.Errno) {
	if 0 <= from && from <= to && to <= len(s) {
		return s[from:to], 0
	}
	return "", 3
}

// replaced is what Replace of a rope of s has to be.
func replaced(s string, at, del int, b string) (string, api.Errno) {
	switch {
	case at < 0, del < 0, at > len(s), del > len(s)-at:
		return "", 3
	case len(s)-del+len(b) > full:
		return "", 4
	}
	return s[:at] + b + s[at+del:], 0
}

// checkSlice holds a Slice of r against that of s.
func checkSlice(t *testing.T, r *rope.Rope, s string, from, to int) {
	t.Helper()
	b, e := r.Slice(from, to)
	if want, wrong := sliced(s, from, to); string(b) != want || e != wrong {
		t.Fatalf("Slice(%d, %d) of %q = %q, %d, not %q, %d", from, to, s, b, e, want, wrong)
	}
}

// checkAt holds the byte of r at i against that of s.
func checkAt(t *testing.T, r *rope.Rope, s string, i int) {
	t.Helper()
	var want byte
	if 0 <= i && i < len(s) {
		want = s[i]
	}
	if c, ok := r.At(i); c != want || ok != (0 <= i && i < len(s)) {
		t.Fatalf("At(%d) of %q = %d, %v, not %d", i, s, c, ok, want)
	}
}

// checkDeep holds how deep r is against its bounds, and against what it tells the next time.
func checkDeep(t *testing.T, r *rope.Rope) {
	t.Helper()
	if n := r.Deep(); n < 1 || n > 24 || r.Deep() != n {
		t.Fatalf("a rope of %d bytes is %d deep, then %d", r.Len(), n, r.Deep())
	}
}

// check holds all that r may be asked for against s, of which it has to be.
func check(t *testing.T, r *rope.Rope, s string) {
	t.Helper()
	if r.Len() != len(s) || text(t, r) != s {
		t.Fatalf("%d bytes, %q, not %d, %q", r.Len(), text(t, r), len(s), s)
	}
	for i := -1; i <= len(s); i++ {
		checkAt(t, r, s, i)
	}
	for _, i := range sizes {
		for _, d := range []int{-1, 0, 1, 63, 64, 65} {
			checkSlice(t, r, s, i, i+d)
			checkSlice(t, r, s, len(s)-i-d, len(s)-i)
		}
	}
	checkDeep(t, r)
}

// edit is the rope that a Replace of r tells, and its bytes, s being those of r; with an error these are r and s. The error, the bytes, and how deep it is are held against the document.
func edit(t *testing.T, r *rope.Rope, s string, at, del int, b string) (*rope.Rope, string) {
	t.Helper()
	u, e := r.Replace(at, del, []byte(b))
	want, wrong := replaced(s, at, del, b)
	if e != wrong || (u == nil) != (wrong != 0) {
		t.Fatalf("Replace(%d, %d, %d bytes) of %d bytes = %v, %d, not %d", at, del, len(b), len(s), u, e, wrong)
	}
	if wrong != 0 {
		return r, s
	}
	if u.Len() != len(want) || text(t, u) != want {
		t.Fatalf("Replace(%d, %d, %q) of %q = %q, not %q", at, del, b, s, text(t, u), want)
	}
	checkDeep(t, u)
	return u, want
}

// chance is numbers that are the same whenever the tests run.
func chance(seed uint64) *rand.Rand {
	return rand.New(rand.NewPCG(seed, 8))
}

// anyEdit is a Replace that a text of n bytes allows, short ones more often than long ones.
func anyEdit(c *rand.Rand, n int) (at, del int, b string) {
	at = c.IntN(n + 1)
	del = c.IntN(n - at + 1)
	if c.IntN(3) > 0 {
		del = min(del, c.IntN(80))
	}
	room := full - n + del
	if c.IntN(4) > 0 {
		room = min(room, 80)
	}
	more := make([]byte, c.IntN(room+1))
	for i := range more {
		more[i] = byte(c.Uint32())
	}
	return at, del, string(more)
}

// P8.2: the example of the chapter.
func TestExample(t *testing.T) {
	r := fresh(t, "abcd")
	u, e := r.Replace(1, 2, []byte("xyz"))
	if e != 0 {
		t.Fatal(e)
	}
	check(t, u, "axyzd")
	check(t, r, "abcd")
}

// P8.1: a rope of each size is of its bytes, whichever; one byte too many, and many, are ErrBig, with no rope.
func TestNew(t *testing.T) {
	check(t, fresh(t, ""), "")
	if r, e := rope.New(nil); r == nil || e != 0 || r.Len() != 0 {
		t.Errorf("New(nil) = %v, %d", r, e)
	}
	all := string(bytesOf(full))
	for n := range full + 1 {
		r := fresh(t, all[:n])
		if r.Len() != n || text(t, r) != all[:n] {
			t.Fatalf("%d bytes: %d, %q", n, r.Len(), text(t, r))
		}
		checkDeep(t, r)
	}
	for _, n := range sizes {
		check(t, fresh(t, all[full-n:]), all[full-n:])
		check(t, fresh(t, strings.Repeat("\x00", n)), strings.Repeat("\x00", n))
		check(t, fresh(t, strings.Repeat("\xff", n)), strings.Repeat("\xff", n))
	}
	for _, n := range []int{full + 1, full + 2, 2 * full, 1 << 20} {
		if r, e := rope.New(make([]byte, n)); r != nil || e != api.ErrBig {
			t.Errorf("New of %d bytes = %v, %d", n, r, e)
		}
	}
}

// P8.1: bytes beyond the end of what is handed in, which its capacity still has, do not count.
func TestWithinLength(t *testing.T) {
	b := bytesOf(3 * full)
	r, e := rope.New(b[:full])
	if e != 0 {
		t.Fatal(e)
	}
	check(t, r, string(b[:full]))
	u, e := r.Replace(full/2, 2, b[full:full+2])
	if e != 0 {
		t.Fatal(e)
	}
	check(t, u, string(b[:full/2])+string(b[full:full+2])+string(b[full/2+2:full]))
}

// P8.1: At of each byte, in whichever order they are asked for; of a place that there is not it is 0, false.
func TestAt(t *testing.T) {
	c := chance(1)
	for _, n := range sizes {
		s := string(bytesOf(n))
		r := fresh(t, s)
		for i := n + 2; i >= -2; i-- {
			checkAt(t, r, s, i)
		}
		for step := range 70 {
			for i := range min(n, 100) {
				checkAt(t, r, s, i*step%n)
			}
		}
		for range 500 {
			checkAt(t, r, s, c.IntN(n+100)-50)
		}
		for _, i := range far {
			checkAt(t, r, s, i)
			checkAt(t, r, s, n-1)
			checkAt(t, r, s, i-n)
		}
	}
}

// P8.1: Slice between any two places; ErrRange, with no bytes, if they are not in order, or not within the rope.
func TestSlice(t *testing.T) {
	for _, n := range []int{0, 1, 2, 5, 64, 65, 200} {
		s := string(bytesOf(n))
		r := fresh(t, s)
		for from := -2; from <= n+2; from++ {
			for to := -2; to <= n+2; to++ {
				checkSlice(t, r, s, from, to)
			}
		}
	}
	for _, n := range sizes {
		s := string(bytesOf(n))
		r := fresh(t, s)
		for _, i := range slices.Concat(sizes, far) {
			for _, j := range slices.Concat(sizes, far) {
				checkSlice(t, r, s, i, j)
				checkSlice(t, r, s, n-i, n-j)
			}
		}
	}
}

// P8.2: Replace of each stretch of short texts, empty ones among them, by nothing, less, as much and more; outside it is ErrRange.
func TestReplace(t *testing.T) {
	for n := range 8 {
		s := "abcdefgh"[:n]
		r := fresh(t, s)
		for at := -2; at <= n+2; at++ {
			for del := -2; del <= n+2; del++ {
				for _, b := range []string{"", "x", "xy", "x\x00\xff", "wxyzwxyzwxyz"} {
					u, want := edit(t, r, s, at, del, b)
					check(t, u, want)
				}
			}
		}
		if u, e := r.Replace(n, 0, nil); e != 0 || text(t, u) != s {
			t.Errorf("Replace by nil of %q: %d", s, e)
		}
		check(t, r, s)
	}
}

// P8.2: Replace of each stretch of a longer text, and of stretches of long ones, by little and by much.
func TestReplaceLonger(t *testing.T) {
	s := string(bytesOf(200))
	r := fresh(t, s)
	for at := range 201 {
		for del := range 201 - at {
			for _, b := range []string{"", "x", strings.Repeat("yz", 40)} {
				edit(t, r, s, at, del, b)
			}
		}
	}
	check(t, r, s)
	for _, n := range sizes {
		s := string(bytesOf(n))
		r := fresh(t, s)
		for _, at := range sizes {
			for _, del := range sizes {
				for _, many := range []int{0, 1, 64, 700} {
					edit(t, r, s, at, del, strings.Repeat("x", many))
					edit(t, r, s, n-at-del, del, strings.Repeat("x", many))
				}
			}
		}
		check(t, r, s)
	}
}

// P8.2, R3: places that there are not are ErrRange, too many bytes are ErrBig, and where both apply ErrRange is told. There is no rope then, and r stays.
func TestNotReplaced(t *testing.T) {
	for _, n := range []int{0, 1, 4, 100, full - 1, full} {
		s := string(bytesOf(n))
		r := fresh(t, s)
		for _, b := range []string{"", "x", strings.Repeat("x", full), strings.Repeat("x", full+1), strings.Repeat("x", 3*full)} {
			for _, i := range far {
				for _, j := range []int{0, 1, n, n / 2, n + 1, -1, math.MaxInt, math.MinInt} {
					edit(t, r, s, i, j, b)
					edit(t, r, s, j, i, b)
					edit(t, r, s, n, j, b)
					edit(t, r, s, n/2, n-n/2+1, b)
				}
			}
		}
		check(t, r, s)
	}
	for _, n := range sizes {
		s := string(bytesOf(n))
		r := fresh(t, s)
		for _, del := range []int{0, 1, n / 3, n} {
			for more := -1; more <= 2; more++ {
				b := strings.Repeat("x", max(0, full-n+del+more))
				edit(t, r, s, 0, del, b)
				edit(t, r, s, n-del, del, b)
				edit(t, r, s, (n-del)/2, del, b)
			}
		}
		check(t, r, s)
	}
}

// P8.2: a rope stays as it is, whatever is made of it, and of what is made of it; each of many ropes, one made of the other, keeps its bytes.
func TestRopesStay(t *testing.T) {
	c := chance(2)
	texts := []string{string(bytesOf(full)), "", string(bytesOf(100))}
	var ropes []*rope.Rope
	for _, s := range texts {
		ropes = append(ropes, fresh(t, s))
	}
	for range 400 {
		i := c.IntN(len(ropes))
		if c.IntN(4) > 0 {
			i = len(ropes) - 1 - c.IntN(3)
		}
		at, del, b := anyEdit(c, len(texts[i]))
		r, s := edit(t, ropes[i], texts[i], at, del, b)
		ropes, texts = append(ropes, r), append(texts, s)
	}
	for i, r := range ropes {
		check(t, r, texts[i])
	}
	for i := range full { // all of them in turn: what one has at i says nothing of the others
		for k, r := range ropes {
			checkAt(t, r, texts[k], i)
		}
	}
}

// P8.3: how deep a rope is, of each size made at once, and if it grows and shrinks by each byte: at the end, at the beginning, in the middle, at both ends in turn, at a place that moves on.
func TestDeep(t *testing.T) {
	places := []func(n int) int{
		func(n int) int { return n },
		func(n int) int { return 0 },
		func(n int) int { return n / 2 },
		func(n int) int { return n % 2 * n },
		func(n int) int { return n * 7 % (n + 1) },
		func(n int) int { return n / 64 * 64 },
		func(n int) int { return n - n/64 },
	}
	for _, size := range []int{1, 2, 31, 64, 65, 100} {
		for _, place := range places {
			r, s := fresh(t, ""), ""
			for len(s)+size <= full {
				r, s = edit(t, r, s, place(len(s)), 0, string(bytesOf(size)))
			}
			check(t, r, s)
			for len(s) >= size {
				r, s = edit(t, r, s, place(len(s)-size), size, "")
			}
			r, s = edit(t, r, s, 0, len(s), "")
			check(t, r, "")
		}
	}
}

// P8.3: how deep a rope is that is edited again and again in steps of one length, to the right, and to the left.
func TestDeepOfSteps(t *testing.T) {
	for _, step := range []int{1, 2, 31, 32, 33, 63, 64, 65, 95, 96, 97, 127, 128, 129, 130, 160, 192, 200, 256, 257} {
		for _, right := range []bool{true, false} {
			for _, change := range [][2]int{{1, 1}, {0, 1}, {1, 0}, {3, 64}, {64, 3}} {
				s := string(bytesOf(full - 200))
				r := fresh(t, s)
				for k := range 100 {
					at := k * step % (len(s) + 1)
					if !right {
						at = len(s) - at
					}
					del := min(change[0], len(s)-at)
					r, s = next(t, r, s, at, del, strings.Repeat("x", min(change[1], full-len(s)+del)))
				}
				check(t, r, s)
			}
		}
	}
}

// P8.3: how deep a rope is that grows by much of which little stays, so that it may be made of very many small things: what is put there is thinned out at once, to a byte behind each stretch that is taken out.
func TestDeepOfThinned(t *testing.T) {
	places := []func(n int) int{
		func(n int) int { return n },
		func(n int) int { return 0 },
		func(n int) int { return n / 2 },
		func(n int) int { return n % 2 * n },
		func(n int) int { return max(n-1, 0) },
		func(n int) int { return min(n, 1) },
	}
	for _, many := range []int{65, 66, 128, 129, 130, 132, 260} {
		for _, del := range []int{15, 31, 32, 63} {
			for _, place := range places {
				thin(t, many, del, place)
			}
		}
	}
}

// thin fills a rope up: many bytes come to the place, and of these, from the left, del are taken out, and one stays.
func thin(t *testing.T, many, del int, place func(n int) int) {
	t.Helper()
	r, s := fresh(t, ""), ""
	for round := 0; len(s)+many <= full; round++ {
		at := place(len(s))
		r, s = next(t, r, s, at, 0, strings.Repeat(string([]byte{byte(round)}), many))
		for left := many; left > del; left -= del + 1 {
			r, s = next(t, r, s, at, del, "")
			at++
		}
	}
	check(t, r, s)
}

// next is what edit is, for edits that may be; of what comes of them only how deep it is is looked at.
func next(t *testing.T, r *rope.Rope, s string, at, del int, b string) (*rope.Rope, string) {
	t.Helper()
	u, e := r.Replace(at, del, []byte(b))
	if e != 0 {
		t.Fatalf("Replace(%d, %d, %d bytes) of %d bytes tells %d", at, del, len(b), len(s), e)
	}
	checkDeep(t, u)
	return u, s[:at] + b + s[at+del:]
}

// P8.1 to P8.3: long rows of edits of all kinds, each made of what the one ahead told.
func TestManyEdits(t *testing.T) {
	for seed := range uint64(40) {
		c := chance(seed + 100)
		s := string(bytesOf(c.IntN(full + 1)))
		r := fresh(t, s)
		for range 300 {
			at, del, b := anyEdit(c, len(s))
			r, s = edit(t, r, s, at, del, b)
			checkAt(t, r, s, at)
			checkAt(t, r, s, at-1)
			checkAt(t, r, s, at+len(b))
		}
		check(t, r, s)
	}
}

// P8.1 to P8.3: long rows of edits that mostly take out a little, within what the last one left, and now and then fill up a lot: of these the rope is made of many small things, put next to greater ones.
func TestShredded(t *testing.T) {
	for seed := range uint64(60) {
		c := chance(seed + 200)
		s := string(bytesOf(full))
		r := fresh(t, s)
		at, often := 0, 1+c.IntN(30)
		for range 1500 {
			del, more := 0, 0
			if c.IntN(often) == 0 {
				at = c.IntN(len(s) + 1)
				more = c.IntN(1 + c.IntN(full-len(s)+1))
			} else {
				if c.IntN(2) == 0 {
					at = c.IntN(len(s) + 1)
				}
				at = min(at, len(s))
				del = min(c.IntN(64), len(s)-at)
			}
			r, s = next(t, r, s, at, del, strings.Repeat(string([]byte{byte(c.Uint32())}), more))
			at += more + c.IntN(2)
		}
		check(t, r, s)
	}
}

// ways are ropes of s that came to be in unlike ways.
func ways(t *testing.T, s string) []*rope.Rope {
	t.Helper()
	l := []*rope.Rope{fresh(t, s)}
	for _, step := range []int{1, 3, 64, 100} {
		front, back := fresh(t, ""), fresh(t, "")
		f, b := "", ""
		for i := 0; i < len(s); i += step {
			j := min(i+step, len(s))
			front, f = edit(t, front, f, i, 0, s[i:j])
			back, b = edit(t, back, b, 0, 0, s[len(s)-j:len(s)-i])
		}
		l = append(l, front, back)
	}
	other, o := edit(t, fresh(t, strings.Repeat("x", full)), strings.Repeat("x", full), 0, full, s)
	l = append(l, other)
	for at := 0; at < len(o); at += 7 { // each of these takes out what there is, and puts it there again
		n := min(5, len(o)-at)
		was := o[at : at+n]
		other, o = edit(t, other, o, at, n, "")
		other, o = edit(t, other, o, at, 0, was)
	}
	return append(l, other)
}

// P8.4: ropes of the same bytes tell the same, and so does what is made of them, however they came to be.
func TestSameBytes(t *testing.T) {
	c := chance(3)
	for _, n := range sizes {
		s := string(bytesOf(n))
		l := ways(t, s)
		for range 20 {
			at, del, b := anyEdit(c, n)
			for _, r := range l {
				check(t, r, s)
				edit(t, r, s, at, del, b)
				edit(t, r, s, at, del+n, b)
				edit(t, r, s, at, del, b+strings.Repeat("x", full))
			}
		}
	}
}

// R7: what is handed in is not changed; what becomes of it behind the call, or of what was told, is not seen by the rope.
func TestOwnBytes(t *testing.T) {
	b := bytesOf(full)
	was := string(b)
	r, _ := rope.New(b[:full-300])
	u, _ := r.Replace(100, 200, b[:500])
	if string(b) != was {
		t.Error("what was handed in has changed")
	}
	clear(b)
	want, _ := replaced(was[:full-300], 100, 200, was[:500])
	check(t, r, was[:full-300])
	check(t, u, want)
	for _, p := range [][2]int{{0, 0}, {0, 1}, {60, 70}, {64, 128}, {90, 700}, {0, len(want)}, {len(want), len(want)}} {
		told, _ := u.Slice(p[0], p[1])
		again, _ := u.Slice(p[0], p[1])
		kept := bytes.Clone(again)
		clear(told)
		told = append(told, "more"...)
		clear(told)
		if !bytes.Equal(again, kept) {
			t.Errorf("two that Slice%v told are one", p)
		}
		check(t, u, want)
		check(t, r, was[:full-300])
	}
}

// R6: what is asked of a rope at the same time is what is asked of it alone, from the first call on.
func TestAskedAtOnce(t *testing.T) {
	for _, n := range []int{0, 1, 100, full} {
		s := string(bytesOf(n))
		r := fresh(t, s)
		deep := make([]int, 8)
		var all sync.WaitGroup
		for k := range deep {
			all.Go(func() {
				deep[k] = r.Deep()
				for i := range n {
					i = (i*(2*k+1) + 64*k) % n
					if c, ok := r.At(i); c != s[i] || !ok {
						t.Errorf("At(%d) = %d, %v", i, c, ok)
						return
					}
				}
				u, e := r.Replace(n/2, n-n/2, []byte("xyz"))
				if e != 0 {
					t.Errorf("Replace tells %d", e)
					return
				}
				if b, e := u.Slice(0, u.Len()); string(b) != s[:n/2]+"xyz" || e != 0 {
					t.Errorf("%q, %d", b, e)
				}
			})
		}
		all.Wait()
		for _, d := range deep {
			if d != r.Deep() {
				t.Errorf("%v deep, then %d", deep, r.Deep())
			}
		}
		check(t, r, s)
	}
}
