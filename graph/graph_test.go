package graph_test

import (
	"math"
	"math/rand/v2"
	"testing"

	"tmesis/api"
	"tmesis/graph"
)

// ladder is what Start has to tell, row by row.
var ladder = api.Rows{0, 0, 0b10, 0b110, 0b1110, 0b11110, 0, 0, 0, 0}

// pair is that h is tighter than g.
type pair struct{ g, h int }

// far is numbers of all sizes: those that the document names, their neighbours and opposites, and those that go round to them.
func far() []int {
	out := []int{math.MinInt, math.MinInt + 1, math.MinInt + 3, math.MaxInt, math.MaxInt - 1, 1<<31 - 1, 1 << 31, -1 << 31, 1 << 32, 1<<32 + 1, 1<<32 + 7, 1 << 62, 255, 256, 257, 259, 1<<16 + 2, 127, 128, 129}
	for i := -70; i <= 70; i++ {
		out = append(out, i)
	}
	return out
}

// bit tells bit h of row g, by division: below 0 a row is its opposite less one, turned over.
func bit(r api.Rows, g, h int) bool {
	row, turned := r[g], r[g] < 0
	if turned {
		row = -(row + 1)
	}
	for range h {
		row /= 2
	}
	return (row%2 == 1) != turned
}

// tighter is what Tighter has to tell.
func tighter(r api.Rows, g, h int) bool {
	return 0 <= g && g <= 9 && 0 <= h && h <= 9 && bit(r, g, h)
}

// edge is what Edge has to tell, bit by bit of what r was.
func edge(r api.Rows, g, h int) (api.Rows, api.Errno) {
	if g < 1 || g > 9 || h < 1 || h > 9 {
		return api.Rows{}, 21
	}
	if g == h || bit(r, h, g) {
		return api.Rows{}, 25
	}
	out := r
	for i := range 10 {
		if i != g && !bit(r, i, g) {
			continue
		}
		for k := range 64 {
			if !bit(r, i, k) && (k == h || bit(r, h, k)) {
				out[i] += 1 << k
			}
		}
	}
	return out, 0
}

// hold holds Edge of r, g and h against what it has to tell.
func hold(t *testing.T, r api.Rows, g, h int) api.Rows {
	t.Helper()
	before := r
	want, code := edge(r, g, h)
	got, e := graph.Edge(r, g, h)
	if got != want || e != code {
		t.Errorf("Edge(%b, %d, %d) = %b, %d, not %b, %d", r, g, h, got, e, want, code)
	}
	if r != before {
		t.Errorf("Edge(%b, %d, %d) has made %b of it", before, g, h, r)
	}
	return got
}

// some is rows of all kinds: bits at random, few of them or many, among the groups alone or all 64.
func some(c *rand.Rand) api.Rows {
	var r api.Rows
	size, share := []int{10, 10, 64}[c.IntN(3)], 1+c.IntN(20)
	for g := range r {
		for h := range size {
			if c.IntN(20) < share && c.IntN(2) == 0 {
				r[g] |= 1 << h
			}
		}
	}
	return r
}

// leads tells whether the edges lead from g to h, by one or more.
func leads(edges []pair, g, h int) bool {
	var seen [10]bool
	todo := []int{g}
	for len(todo) > 0 {
		at := todo[0]
		todo = todo[1:]
		for _, p := range edges {
			if p.g != at {
				continue
			}
			if p.h == h {
				return true
			}
			if !seen[p.h] {
				seen[p.h] = true
				todo = append(todo, p.h)
			}
		}
	}
	return false
}

// rungs is the ladder, step by step.
func rungs() []pair {
	return []pair{{2, 1}, {3, 2}, {4, 3}, {5, 4}}
}

// P13.1: the rows that Start tells, and which groups are tighter by them.
func TestStart(t *testing.T) {
	if r := graph.Start(); r != ladder {
		t.Fatalf("Start() = %b", r)
	}
	for _, g := range far() {
		for _, h := range far() {
			want := 1 <= h && h < g && g <= 5
			if got := graph.Tighter(graph.Start(), g, h); got != want {
				t.Errorf("at the start: Tighter(%d, %d) = %t", g, h, got)
			}
		}
	}
}

// P13.1, R1: all rows of one bit, and all that have each bit but one, with numbers of all sizes.
func TestTighterBits(t *testing.T) {
	for row := range 10 {
		for k := range 64 {
			var one, others api.Rows
			one[row] = 1 << k
			for i := range others {
				others[i] = ^one[i]
			}
			for g := -2; g < 12; g++ {
				for h := -2; h < 70; h++ {
					known := 0 <= g && g <= 9 && 0 <= h && h <= 9
					here := g == row && h == k
					if got := graph.Tighter(one, g, h); got != (known && here) {
						t.Errorf("bit %d of row %d alone: Tighter(%d, %d) = %t", k, row, g, h, got)
					}
					if got := graph.Tighter(others, g, h); got != (known && !here) {
						t.Errorf("all but bit %d of row %d: Tighter(%d, %d) = %t", k, row, g, h, got)
					}
				}
			}
		}
	}
}

// P13.1, R1: rows of all kinds, with numbers of all sizes.
func TestTighterRows(t *testing.T) {
	numbers := far()
	for seed := range uint64(100) {
		r := some(rand.New(rand.NewPCG(seed, 131)))
		before := r
		for _, g := range numbers {
			for _, h := range numbers {
				if got := graph.Tighter(r, g, h); got != tighter(r, g, h) {
					t.Errorf("Tighter(%b, %d, %d) = %t", r, g, h, got)
				}
			}
		}
		if r != before {
			t.Errorf("Tighter has made %b of %b", r, before)
		}
	}
}

// P13.2: the chapter's example, and edges that reach rows: that of the group alone, and those of all that it is tighter than.
func TestEdgeTable(t *testing.T) {
	for _, c := range []struct {
		r, want api.Rows
		g, h    int
	}{
		{ladder, api.Rows{0, 0, 2, 6, 14, 30, 0, 0b1110}, 7, 3},                       // the chapter's
		{ladder, api.Rows{0, 1 << 6, 2 | 1<<6, 6 | 1<<6, 14 | 1<<6, 30 | 1<<6}, 1, 6}, // all rungs behind the first
		{ladder, api.Rows{0, 0, 2, 6, 14, 30 | 1<<9}, 5, 9},                           // the last rung alone
		{ladder, api.Rows{0, 0, 2, 6, 14, 30, 0, 0, 0, 1 << 8}, 9, 8},                 // no rung
		{ladder, ladder, 5, 1},                // one that is there
		{api.Rows{}, api.Rows{0, 2: 2}, 2, 1}, // no rows
		{api.Rows{0: 1 << 7, 8: 1 << 7, 3: 5}, api.Rows{0: 1<<7 | 8 | 5, 7: 8 | 5, 8: 1<<7 | 8 | 5, 3: 5}, 7, 3},                // row 0 too, and bit 0
		{api.Rows{4: 1 << 4}, api.Rows{4: 1<<4 | 2}, 4, 1},                                                                      // one that is tighter than itself
		{api.Rows{6: 1 << 2, 2: 1<<6 - 1}, api.Rows{6: 1<<2 | 1<<9, 2: 1<<6 - 1 | 1<<9}, 2, 9},                                  // likewise, with another one
		{api.Rows{1: math.MinInt, 2: 1 << 10}, api.Rows{1: math.MinInt, 2: 1<<10 | 2 | math.MinInt}, 2, 1},                      // bits of no group
		{api.Rows{3: 1 << 13, 4: 1 << 35, 5: 1 << 3}, api.Rows{3: 1<<13 | 1<<4 | 1<<35, 4: 1 << 35, 5: 8 | 1<<4 | 1<<35}, 3, 4}, // likewise
	} {
		if got, e := graph.Edge(c.r, c.g, c.h); got != c.want || e != api.OK {
			t.Errorf("Edge(%b, %d, %d) = %b, %d, not %b", c.r, c.g, c.h, got, e, c.want)
		}
		hold(t, c.r, c.g, c.h)
	}
	r := hold(t, graph.Start(), 7, 3)
	for h := range 10 {
		if want := 1 <= h && h <= 3; graph.Tighter(r, 7, h) != want {
			t.Errorf("behind 7 to 3: Tighter(7, %d) is not %t", h, want)
		}
	}
}

// P13.2, R2, R3: each error, and the first of several, beside no rows.
func TestEdgeErrors(t *testing.T) {
	full := api.Rows{}
	for i := range full {
		full[i] = -1
	}
	for _, c := range []struct {
		r    api.Rows
		g, h int
		want api.Errno
	}{
		{ladder, 0, 1, 21}, {ladder, 1, 0, 21}, {ladder, 10, 1, 21}, {ladder, 1, 10, 21}, {ladder, -1, 1, 21}, {ladder, 1, -1, 21}, {ladder, 64, 1, 21}, {ladder, 1, 64, 21}, // groups
		{ladder, 1, 1, 25}, {ladder, 5, 5, 25}, {ladder, 6, 6, 25}, {ladder, 9, 9, 25}, {api.Rows{}, 3, 3, 25}, // the same
		{ladder, 1, 2, 25}, {ladder, 1, 5, 25}, {ladder, 4, 5, 25}, {full, 9, 1, 25}, {full, 1, 9, 25}, // would come round
		{api.Rows{3: 1 << 8}, 8, 3, 25}, {api.Rows{3: 1 << 8, 8: 1 << 3}, 3, 8, 25}, // likewise
		{ladder, 0, 0, 21}, {ladder, 10, 10, 21}, {ladder, -1, -1, 21}, {full, 0, 5, 21}, {full, 5, 0, 21}, {full, 10, 0, 21}, {api.Rows{9: 1}, 0, 9, 21}, {api.Rows{0: 1 << 9}, 9, 0, 21}, // several
	} {
		if got, e := graph.Edge(c.r, c.g, c.h); got != (api.Rows{}) || e != c.want {
			t.Errorf("Edge(%b, %d, %d) = %b, %d, not %d", c.r, c.g, c.h, got, e, c.want)
		}
	}
}

// P13.2, R1: numbers of all sizes, of rows of a few kinds.
func TestEdgeNumbers(t *testing.T) {
	kinds := []api.Rows{{}, ladder}
	for seed := range uint64(6) {
		kinds = append(kinds, some(rand.New(rand.NewPCG(seed, 132))))
	}
	for _, r := range kinds {
		for _, g := range far() {
			for _, h := range far() {
				hold(t, r, g, h)
			}
		}
	}
}

// P13.2: rows of all kinds, that come from Start or not, with each pair of groups.
func TestEdgeRows(t *testing.T) {
	fine := 0
	for seed := range uint64(3000) {
		r := some(rand.New(rand.NewPCG(seed, 133)))
		for g := range 11 {
			for h := range 11 {
				if hold(t, r, g, h) != (api.Rows{}) {
					fine++
				}
			}
		}
	}
	if fine < 10000 {
		t.Errorf("no more than %d edges that may be", fine)
	}
}

// lead holds r against the ladder and these edges, which all may be, and each further edge against whether it would come round.
func lead(t *testing.T, r api.Rows, edges []pair) {
	t.Helper()
	var want api.Rows
	for g := 1; g <= 9; g++ {
		for h := 1; h <= 9; h++ {
			there := leads(edges, g, h)
			if graph.Tighter(r, g, h) != there {
				t.Errorf("behind %v: Tighter(%d, %d) is not %t", edges, g, h, there)
			}
			if there {
				want[g] |= 1 << h
			}
			round := g == h || leads(edges, h, g)
			if got, e := graph.Edge(r, g, h); round != (e == api.ErrCycle) || round && got != (api.Rows{}) || !round && e != api.OK {
				t.Errorf("behind %v: Edge(%d, %d) = %b, %d", edges, g, h, got, e)
			}
		}
		if graph.Tighter(r, g, g) {
			t.Errorf("behind %v: %d is tighter than itself", edges, g)
		}
	}
	if r != want {
		t.Errorf("behind %v: %b, not %b", edges, r, want)
	}
}

// P13.3: what is tighter is what the edges lead to, behind all edges and pairs of edges.
func TestLeadsPairs(t *testing.T) {
	lead(t, graph.Start(), rungs())
	for i := range 81 * 81 {
		r, edges := graph.Start(), rungs()
		for _, p := range []pair{{i%9 + 1, i/9%9 + 1}, {i/81%9 + 1, i/729 + 1}} {
			if next, e := graph.Edge(r, p.g, p.h); e == api.OK {
				r, edges = next, append(edges, p)
			}
		}
		lead(t, r, edges)
	}
}

// P13.3: likewise, behind many edges at random, some of which may not be.
func TestLeadsMany(t *testing.T) {
	for seed := range uint64(200) {
		c := rand.New(rand.NewPCG(seed, 134))
		r, edges := graph.Start(), rungs()
		for step := range 300 {
			p := pair{c.IntN(9) + 1, c.IntN(9) + 1}
			next, e := graph.Edge(r, p.g, p.h)
			if round := p.g == p.h || leads(edges, p.h, p.g); round != (e == api.ErrCycle) {
				t.Errorf("behind %v: Edge(%d, %d) tells %d", edges, p.g, p.h, e)
			}
			if e == api.OK {
				r, edges = next, append(edges, p)
			}
			if step%50 == 3 {
				lead(t, r, edges)
			}
		}
		lead(t, r, edges)
		transitive(t, r)
	}
}

// transitive holds that what is tighter than what is tighter is so.
func transitive(t *testing.T, r api.Rows) {
	t.Helper()
	for i := range 1000 {
		g, h, k := i%10, i/10%10, i/100
		if graph.Tighter(r, g, h) && graph.Tighter(r, h, k) && !graph.Tighter(r, g, k) {
			t.Errorf("%b: %d, %d, %d", r, g, h, k)
		}
	}
}

// R6, R7: a second call tells the same, whatever was asked, and whatever became of what was told, between.
func TestAgain(t *testing.T) {
	for range 3 {
		r := graph.Start()
		if r != ladder {
			t.Fatalf("Start() = %b", r)
		}
		next := hold(t, r, 7, 3)
		next[7], next[1] = 1, 1
		hold(t, r, 7, 3)
		hold(t, r, 3, 7)
		hold(t, next, 7, 1)
		if graph.Tighter(r, 7, 3) || !graph.Tighter(r, 5, 1) {
			t.Errorf("%b", r)
		}
		r[1], r[9] = -1, -1
	}
}
