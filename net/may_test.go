package net_test

import (
	"math"
	"math/rand"
	"slices"
	"testing"

	"sextant/api"
	"sextant/net"
)

const (
	low  = math.MinInt
	high = math.MaxInt
)

// graphAnswers holds Check and Of to what a graph is.
func graphAnswers(t *testing.T, what string, n api.Net, may bool) {
	t.Helper()
	want := api.ErrNet
	if may {
		want = api.OK
	}
	if code := net.Check(n); code != want {
		t.Errorf("%s: %v", what, code)
	}
	if s, code := net.Of(n); code != want || (s != nil) != may {
		t.Errorf("%s: %v, %v", what, s, code)
	}
}

// P15.1, P15.2: how many nodes and arcs a graph may have
func TestGraphCounts(t *testing.T) {
	nodes := func(n int) api.Net { return api.Net{Nodes: make([]api.NetNode, n)} }
	graphAnswers(t, "none", api.Net{}, false)
	graphAnswers(t, "an empty list", nodes(0), false)
	graphAnswers(t, "one", nodes(1), true)
	graphAnswers(t, "MaxNet", nodes(api.MaxNet), true)
	graphAnswers(t, "one more", nodes(api.MaxNet+1), false)
	const most = 1 << 18
	arcs := func(counts ...int) api.Net {
		n := nodes(len(counts))
		for i, c := range counts {
			n.Nodes[i].Arcs = make([]api.Arc, c)
		}
		return n
	}
	graphAnswers(t, "all arcs at one", arcs(most), true)
	graphAnswers(t, "all and one", arcs(most+1), false)
	graphAnswers(t, "at two", arcs(most/2, most/2), true)
	graphAnswers(t, "at two, and one", arcs(most/2, most/2+1), false)
	graphAnswers(t, "the last has one too many", arcs(0, most, 0, 1), false)
	far := arcs(most, 0)
	far.Nodes[0].Arcs[most-1].To = 2
	graphAnswers(t, "the last arc leads nowhere", far, false)
}

// P15.1: what an arc may be, wherever it stands
func TestArcs(t *testing.T) {
	type row struct {
		what string
		a    api.Arc
		may  bool
	}
	rows := []row{
		{"plain", api.Arc{}, true},
		{"all bits", api.Arc{Turns: math.MaxUint64}, true},
	}
	add := func(what string, may bool, l ...api.Arc) {
		for _, a := range l {
			rows = append(rows, row{what, a, may})
		}
	}
	add("processes", true, api.Arc{Proc: -1}, api.Arc{Proc: 15})
	add("no processes", false, api.Arc{Proc: -2}, api.Arc{Proc: 16}, api.Arc{Proc: low}, api.Arc{Proc: high})
	add("nodes", true, api.Arc{To: 1}, api.Arc{To: 2})
	add("no nodes", false, api.Arc{To: -1}, api.Arc{To: 3}, api.Arc{To: low}, api.Arc{To: high})
	for bad := api.BadAssert; bad <= api.BadDstep; bad++ {
		add("failing", true, api.Arc{Bad: bad})
		add("failing, to somewhere", false, api.Arc{Bad: bad, To: 1}, api.Arc{Bad: bad, To: -1}, api.Arc{Bad: bad, To: 3})
	}
	add("no such Bad", false, api.Arc{Bad: -1}, api.Arc{Bad: api.BadDstep + 1}, api.Arc{Bad: low}, api.Arc{Bad: high})
	for _, l := range [][]int{{}, {0}, {high}, {0, 1}, {3, 70, high}} {
		add("numbers", true, api.Arc{Reads: l}, api.Arc{Writes: l}, api.Arc{Reads: l, Writes: l})
	}
	for _, l := range [][]int{{-1}, {low}, {-1, 0}, {0, 0}, {1, 0}, {0, 2, 1}, {0, 1, 1}, {5, -1}, {0, 1, 2, 3, 3}} {
		add("no such numbers", false, api.Arc{Reads: l}, api.Arc{Writes: l}, api.Arc{Reads: []int{0, 1}, Writes: l})
	}
	for _, x := range rows {
		for node := range 3 {
			for at := range 2 {
				n := api.Net{Nodes: make([]api.NetNode, 3)}
				n.Nodes[node].Arcs = slices.Insert([]api.Arc{{To: 2}}, at, x.a)
				graphAnswers(t, x.what+tell(x.a), n, x.may)
			}
		}
	}
}

// threadsAnswer holds CheckThreads and OfThreads to what threads are.
func threadsAnswer(t *testing.T, what string, x api.Threads, may bool) {
	t.Helper()
	want := api.ErrNet
	if may {
		want = api.OK
	}
	if code := net.CheckThreads(x); code != want {
		t.Errorf("%s: %v", what, code)
	}
	if s, code := net.OfThreads(x); code != want || (s != nil) != may {
		t.Errorf("%s: %v, %v", what, s, code)
	}
}

// P15.1, P15.3: how much threads may have of everything
func TestThreadCounts(t *testing.T) {
	node := []api.ThreadNode{{}}
	procs := func(counts ...int) (out [][]api.ThreadNode) {
		for _, n := range counts {
			out = append(out, make([]api.ThreadNode, n))
		}
		return out
	}
	arcs := func(counts ...int) api.Threads {
		out := procs(len(counts))
		for i, n := range counts {
			out[0][i].Arcs = make([]api.ThreadArc, n)
		}
		return api.Threads{Procs: append(out, node)}
	}
	props := func(n int) api.Threads {
		return api.Threads{Init: []int{0}, Props: make([]api.ThreadProp, n)}
	}
	for _, x := range []struct {
		what string
		t    api.Threads
		may  bool
	}{
		{"nothing", api.Threads{}, true},
		{"empty lists", api.Threads{Init: []int{}, Procs: procs(), Props: []api.ThreadProp{}}, true},
		{"objects", api.Threads{Init: make([]int, api.MaxObjects)}, true},
		{"an object too many", api.Threads{Init: make([]int, api.MaxObjects+1)}, false},
		{"processes", api.Threads{Procs: procs(1, 2, 1, 1, 1, 1, 1, 1)}, true},
		{"a process too many", api.Threads{Procs: procs(1, 2, 1, 1, 1, 1, 1, 1, 1)}, false},
		{"a process without nodes", api.Threads{Procs: procs(0)}, false},
		{"a list that is none", api.Threads{Procs: [][]api.ThreadNode{node, nil}}, false},
		{"nodes", api.Threads{Procs: procs(api.MaxPlaces, api.MaxPlaces)}, true},
		{"a node too many", api.Threads{Procs: procs(1, api.MaxPlaces+1)}, false},
		{"arcs", arcs(1000), true},
		{"arcs of each node", arcs(1000, 0, 1000), true},
		{"an arc too many", arcs(1001), false},
		{"an arc too many behind", arcs(1, 1001), false},
		{"propositions", props(api.MaxProps), true},
		{"a proposition too many", props(api.MaxProps + 1), false},
	} {
		threadsAnswer(t, x.what, x.t, x.may)
	}
}

// P15.1: objects and values that are named must be there
func TestThreadNumbers(t *testing.T) {
	arc := func(a api.ThreadArc) api.Threads {
		return api.Threads{Init: []int{3, 4}, Procs: [][]api.ThreadNode{{{}}, {{}, {Arcs: []api.ThreadArc{{}, a}}}}}
	}
	prop := func(object, value int) api.Threads {
		return api.Threads{Init: []int{3, 4}, Props: []api.ThreadProp{{}, {Object: object, Value: value}}}
	}
	for n, may := range map[int]bool{0: true, 1: true, 255: true, 256: false, -1: false, low: false, high: false} {
		what := tell(n)
		threadsAnswer(t, "begins with "+what, api.Threads{Init: []int{0, n}}, may)
		threadsAnswer(t, "tests for "+what, arc(api.ThreadArc{Test: true, Object: 1, Value: n}), may)
		threadsAnswer(t, "names, but doesn't test for "+what, arc(api.ThreadArc{Value: n}), may)
		threadsAnswer(t, "sets to "+what, arc(api.ThreadArc{Set: true, SetObject: 1, SetTo: n}), may)
		threadsAnswer(t, "doesn't set to "+what, arc(api.ThreadArc{SetTo: n}), true)
		threadsAnswer(t, "speaks of "+what, prop(0, n), may)
	}
	for n, may := range map[int]bool{0: true, 1: true, 2: false, -1: false, low: false, high: false} {
		what := tell(n)
		threadsAnswer(t, "tests "+what, arc(api.ThreadArc{Test: true, Object: n}), may)
		threadsAnswer(t, "doesn't test "+what, arc(api.ThreadArc{Object: n}), true)
		threadsAnswer(t, "sets "+what, arc(api.ThreadArc{Set: true, SetObject: n}), may)
		threadsAnswer(t, "doesn't set "+what, arc(api.ThreadArc{SetObject: n}), true)
		threadsAnswer(t, "speaks of "+what, prop(n, 0), may)
		threadsAnswer(t, "leads to "+what, arc(api.ThreadArc{To: n}), may)
		threadsAnswer(t, "fails, and leads to "+what, arc(api.ThreadArc{To: n, Bad: api.BadDiv}), may)
	}
	for n, may := range map[int]bool{0: true, 1: true, 5: true, 6: false, -1: false, low: false, high: false} {
		threadsAnswer(t, "fails by "+tell(n), arc(api.ThreadArc{Bad: n}), may)
	}
	without := arc(api.ThreadArc{})
	without.Init = nil
	threadsAnswer(t, "no objects", without, true)
	without.Procs[1][1].Arcs[0].Test = true
	threadsAnswer(t, "tests one of none", without, false)
	threadsAnswer(t, "speaks of one of none", api.Threads{Props: make([]api.ThreadProp, 1)}, false)
}

// P15.1: graphs and threads by chance may be, and what is explored may be, too
func TestMayByChance(t *testing.T) {
	for seed := range 500 {
		r := rand.New(rand.NewSource(int64(seed)))
		graphAnswers(t, "by chance", someNet(r, 8), true)
		x := someThreads(r)
		threadsAnswer(t, "by chance", x, true)
		if n, _ := explored(t, static(t, x), api.MaxNet); net.Check(n) != api.OK {
			t.Error(x, n)
		}
	}
}
