package collapse

import (
	"sextant/api"
	"sextant/codec"
)

// shelf is the parts of one kind, by their numbers, and the numbers by the parts' bytes.
type shelf struct {
	parts   [][]int
	numbers map[string]int
}

// put is a part's number; it is put, if it isn't there yet.
func (t *Table) put(p part) (int, api.Errno) {
	s := &t.shelves[p.kind]
	key := bytesOf(p.numbers)
	if n, ok := s.numbers[key]; ok {
		return n, api.OK
	}
	if t.Parts() >= t.most {
		return 0, api.ErrRoom
	}
	if s.numbers == nil {
		s.numbers = map[string]int{}
	}
	n := len(s.parts)
	s.parts = append(s.parts, p.numbers)
	s.numbers[key] = n
	return n, api.OK
}

// parts are those whose numbers bytes are; not ok: they are none, or there is no such part.
func (t *Table) parts(b string) ([][]int, bool) {
	var out [][]int
	procs := 0
	for in := codec.Read(b); in.Left() > 0; {
		there := t.shelves[kindAt(len(out), procs)].parts
		n, e := in.Uint()
		if e != api.OK || n >= uint64(len(there)) {
			return nil, false
		}
		out = append(out, there[n])
		procs = len(out[ofShape]) - 1
	}
	return out, true
}

// bytesOf is numbers as bytes, one behind the other.
func bytesOf(numbers []int) string {
	b := codec.New(api.MaxRoom)
	for _, n := range numbers {
		b.Int(int64(n))
	}
	return b.String()
}
