package store

// none is no number: where a chain ends.
const none = -1

// fewest is how many chains there are at first; it is a power of two, as all numbers of chains are.
const fewest = 16

// held is a state that is there: its hash, where its bytes are, and the number of the state behind it in its chain.
type held struct {
	hash     uint64
	from, to int
	next     int
}

// hash is FNV-1a's, with its bits mixed once more: the low ones, by which chains are chosen, would tell too little of the high bits of a state's bytes.
func hash(s string) uint64 {
	h := uint64(14695981039346656037)
	for i := range len(s) {
		h = (h ^ uint64(s[i])) * 1099511628211
	}
	h = (h ^ h>>32) * 0x9e3779b97f4a7c15
	return h ^ h>>32
}

// piece is the bytes of the state of a number.
func (t *Store) piece(n int) []byte {
	return t.text[t.held[n].from:t.held[n].to]
}

// chain is the place of a hash's chain.
func (t *Store) chain(h uint64) int {
	return int(h & uint64(len(t.heads)-1))
}

// search is the number of a state, or none. Bytes are held against each other only where the hashes are the same: few are that aren't the same state.
func (t *Store) search(s string, h uint64) int {
	if len(t.heads) == 0 {
		return none
	}
	n := t.heads[t.chain(h)]
along:
	for n != none {
		switch x := t.held[n]; {
		case x.hash == h && string(t.piece(n)) == s:
			break along
		default:
			n = x.next
		}
	}
	return n
}

// add is the number of a state that is put, and wasn't there.
func (t *Store) add(s string, h uint64) int {
	if len(t.held) >= len(t.heads) {
		t.spread()
	}
	n, from := len(t.held), len(t.text)
	t.text = append(t.text, s...)
	t.held = append(t.held, held{hash: h, from: from, to: len(t.text)})
	t.hang(n)
	return n
}

// hang lays a state ahead of those that are in its chain.
func (t *Store) hang(n int) {
	c := t.chain(t.held[n].hash)
	t.held[n].next = t.heads[c]
	t.heads[c] = n
}

// spread makes twice as many chains, and hangs the states in them anew, so that a chain stays short however many states there are.
func (t *Store) spread() {
	t.heads = make([]int, max(fewest, 2*len(t.heads)))
	for c := range t.heads {
		t.heads[c] = none
	}
	for n := range t.held {
		t.hang(n)
	}
}
