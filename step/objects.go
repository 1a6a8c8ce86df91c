package step

import (
	"iter"
	"math/bits"
	"slices"

	"sextant/api"
)

// The objects that ways read and write, by their numbers.
const (
	goesAlone = 0                      // which process goes on alone
	counted   = 1                      // which processes and channels there are
	process   = 2                      // of each process its node and its variables
	messages  = process + api.MaxProcs // of each channel
	variable  = messages + api.MaxChans
	objects   = variable + api.MaxVars
)

// names are variables: those of the model, behind them those of a process.
const names = 2 * api.MaxVars

// set is one of objects, of names, or of process types.
type set [(max(objects, names) + 63) / 64]uint64

func (s *set) add(object int) {
	s[object/64] |= 1 << (object % 64)
}

func (s *set) has(object int) bool {
	return s[object/64]>>(object%64)&1 != 0
}

func (s *set) addAll(first, count int) {
	for i := range count {
		s.add(first + i)
	}
}

func (s *set) join(other *set) {
	for i, w := range other {
		s[i] |= w
	}
}

func (s *set) meets(other *set) bool {
	for i, w := range other {
		if w&s[i] != 0 {
			return true
		}
	}
	return false
}

// each is the objects of a set, rising.
func (s *set) each() iter.Seq[int] {
	return func(yield func(int) bool) {
		for i, w := range s {
			for ; w != 0; w &= w - 1 {
				if !yield(64*i + bits.TrailingZeros64(w)) {
					return
				}
			}
		}
	}
}

func (s *set) list() []int {
	return slices.Collect(s.each())
}

// foot is what ways may do.
type foot struct {
	reads  set
	writes set
	asks   set  // variables whose channels are asked something: nothing is ever stored into these, so they have the same channels for ever
	stirs  set  // likewise: sent to, received from
	waits  set  // likewise: by ways that would go ahead of this one
	begins set  // process types
	mark   bool // what is seen of the nodes may turn
}

// join adds what another foot does, and tells whether there was something new.
func (f *foot) join(other *foot) bool {
	before := *f
	f.reads.join(&other.reads)
	f.writes.join(&other.writes)
	f.asks.join(&other.asks)
	f.stirs.join(&other.stirs)
	f.begins.join(&other.begins)
	f.mark = f.mark || other.mark
	return *f != before
}

// wait lets a way hang on what one does that would go ahead of it.
func (f *foot) wait(other *foot) {
	f.reads.join(&other.reads)
	f.asks.join(&other.asks)
	f.waits.join(&other.stirs)
}
