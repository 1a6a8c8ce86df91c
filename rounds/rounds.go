// Package rounds goes over graphs for rounds: what the automata's packages ask of words, and of states that come round to each other.
package rounds

// Step is one of a graph: to a node, in sets.
type Step struct {
	To   int
	Sets uint64
}

// Search goes over a graph for a round: a row of steps that comes to a node again, and is in all sets of whole. Nodes that come round to each other are a knot; what is open is those knots, as far as they are known, that the row of steps which is being gone leads through.
type Search struct {
	steps  func(node, from int) (Step, int) // the first one of a node's steps from a number on, and the number behind it; -1: there is none
	whole  uint64
	met    []int32 // of each node: 0, if it has not been met; above, when it was; below, once its knot has been left: that one's number, from -1 down
	count  int32   // of the nodes that have been met
	closed int32   // of the knots that have been left
	frames []frame
	knots  []knot
	open   []int32 // the nodes of the open knots, as they were met
}

// frame is a node of the row that is being gone, and the number of the step to be gone next.
type frame struct {
	node int32
	from int32
}

// knot is an open one: when its first node was met, the sets of the step that led to that one, and those of all steps within it that have been gone.
type knot struct {
	first int32
	into  uint64
	sets  uint64
}

// New is a search that has gone over none of a graph's nodes. The function answers the first one of a node's steps from a number on, and the number behind it; -1, if there is none.
func New(nodes int, whole uint64, steps func(node, from int) (Step, int)) *Search {
	return &Search{steps: steps, whole: whole, met: make([]int32, nodes)}
}

// Round tells whether one can be come to from a node. Nodes that have been gone over already are not gone over again.
func (s *Search) Round(begin int) bool {
	if s.met[begin] != 0 {
		return false
	}
	s.enter(Step{To: begin})
	found := false
row:
	for len(s.frames) > 0 {
		top := &s.frames[len(s.frames)-1]
		for {
			next, behind := s.steps(int(top.node), int(top.from))
			if behind < 0 {
				s.leave(top.node)
				continue row
			}
			top.from = int32(behind)
			when := s.met[next.To]
			if when == 0 {
				s.enter(next)
				continue row
			}
			if when > 0 && s.tie(when, next.Sets) {
				found = true
				break row
			}
		}
	}
	return found
}

// enter goes a step to a node that has not been met, which so far is a knot alone.
func (s *Search) enter(next Step) {
	s.count++
	s.met[next.To] = s.count
	s.frames = append(s.frames, frame{node: int32(next.To)})
	s.knots = append(s.knots, knot{first: s.count, into: next.Sets})
	s.open = append(s.open, int32(next.To))
}

// tie makes one knot of all open ones from that on which has the node that was met then, to which a step leads back, and tells whether it has a round.
func (s *Search) tie(when int32, sets uint64) bool {
	last := len(s.knots) - 1
	for s.knots[last].first > when {
		sets |= s.knots[last].into | s.knots[last].sets
		last--
	}
	s.knots = s.knots[:last+1]
	s.knots[last].sets |= sets
	return s.knots[last].sets&s.whole == s.whole
}

// leave goes back from a node all of whose steps have been gone. If it is the first one of its knot, that one is closed.
func (s *Search) leave(node int32) {
	s.frames = s.frames[:len(s.frames)-1]
	last := len(s.knots) - 1
	if s.knots[last].first != s.met[node] {
		return
	}
	s.knots = s.knots[:last]
	s.closed++
	for {
		end := len(s.open) - 1
		n := s.open[end]
		s.open = s.open[:end]
		s.met[n] = -s.closed
		if n == node {
			return
		}
	}
}

// Knots are those of a graph whose steps are in no set: of each node its knot's number, which is lower than those of knots that lead to it; and of each knot its nodes, rising.
func Knots(nodes int, steps func(node, from int) (Step, int)) ([]int, [][]int) {
	s := New(nodes, 1, steps)
	for n := range nodes {
		s.Round(n)
	}
	numbers, knots := make([]int, nodes), make([][]int, s.closed)
	for n, left := range s.met {
		k := int(-left) - 1
		numbers[n] = k
		knots[k] = append(knots[k], n)
	}
	return numbers, knots
}
