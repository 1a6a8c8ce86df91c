package alternate

// places is a set of places of a word, a bit for each: what is asked of thousands of them is so worked out for many at a time.
type places []uint64

func (p places) has(i int) bool {
	return p[i/64]>>(i%64)&1 != 0
}

func (p places) put(i int) {
	p[i/64] |= 1 << (i % 64)
}

// join takes the places of another set, too.
func (p places) join(q places) {
	for i := range p {
		p[i] |= q[i]
	}
}

// keep leaves those that are in another set, too, and tells whether there are any.
func (p places) keep(q places) bool {
	var left uint64
	for i := range p {
		p[i] &= q[i]
		left |= p[i]
	}
	return left != 0
}

// drop leaves those that are not in another set.
func (p places) drop(q places) {
	for i := range p {
		p[i] &^= q[i]
	}
}

// ahead moves each place to the one ahead of it; the first one is gone.
func (p places) ahead() {
	for i := range p {
		p[i] >>= 1
		if i+1 < len(p) {
			p[i] |= p[i+1] << 63
		}
	}
}
