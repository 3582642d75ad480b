package rope

// most is how many bytes a leaf has, at most.
const most = 64

// part is some bytes of a text: a leaf has them itself, and any other one has those of its left side, and behind them those of its right side. Without bytes there is no part (nil).
type part struct {
	text        string
	left, right *part // nil, both of them, of a leaf
	size        int
}

// spot is a leaf's bytes, and the place of the first one in the whole text.
type spot struct {
	from int
	text string
}

// has tells whether s is a spot that has the byte at i.
func (s *spot) has(i int) bool {
	return s != nil && i >= s.from && i-s.from < len(s.text)
}

// leaf tells whether p is one.
func (p *part) leaf() bool {
	return p.left == nil
}

// join is the part of the bytes of left, and those of right behind them.
func join(left, right *part) *part {
	switch {
	case left == nil:
		return right
	case right == nil:
		return left
	}
	return &part{left: left, right: right, size: left.size + right.size}
}

// build is the part of the bytes of b, in leaves that are about as long as one another.
func build(b []byte) *part {
	switch {
	case len(b) == 0:
		return nil
	case len(b) <= most:
		return &part{text: string(b), size: len(b)}
	}
	half := len(b) / 2
	return join(build(b[:half]), build(b[half:]))
}

// ahead is the leaves of p that end ahead of the one that has the byte at at, and what that one has ahead of it. (If at is the end, that one is the last leaf.)
func ahead(p *part, at int) (*part, string) {
	switch {
	case p == nil:
		return nil, ""
	case p.leaf():
		return nil, p.text[:at]
	case at < p.left.size:
		return ahead(p.left, at)
	}
	before, left := ahead(p.right, at-p.left.size)
	return join(p.left, before), left
}

// behind is what the leaf that has the byte at at has from there on, and the leaves of p behind that one.
func behind(p *part, at int) (string, *part) {
	switch {
	case p == nil:
		return "", nil
	case p.leaf():
		return p.text[at:], nil
	case at >= p.left.size:
		return behind(p.right, at-p.left.size)
	}
	right, after := behind(p.left, at)
	return right, join(after, p.right)
}

// add is b, and behind it the bytes of p from from to ahead of to.
func add(b []byte, p *part, from, to int) []byte {
	switch {
	case from >= to:
		return b
	case p.leaf():
		return append(b, p.text[from:to]...)
	}
	half := p.left.size
	b = add(b, p.left, min(from, half), min(to, half))
	return add(b, p.right, max(from-half, 0), max(to-half, 0))
}

// find is the leaf of p that has the byte at i.
func find(p *part, i int) *spot {
	from := 0
	for !p.leaf() {
		half := p.left.size
		if i-from < half {
			p = p.left
		} else {
			from += half
			p = p.right
		}
	}
	return &spot{from: from, text: p.text}
}

// steps is how many steps a byte of p is away from its top, at most.
func steps(p *part) int {
	if p == nil || p.leaf() {
		return 1
	}
	return 1 + max(steps(p.left), steps(p.right))
}
