package net_test

import (
	"fmt"
	"math/rand"
	"slices"
	"testing"

	"sextant/api"
	"sextant/net"
)

// tell is anything as a text; an empty list and none are the same.
func tell(x any) string {
	return fmt.Sprintf("%+v", x)
}

func moves(s api.System, state string) []api.Move {
	return slices.Collect(s.Next(state))
}

// bytesOf is numbers' bytes, one behind the other, by groups of seven bits.
func bytesOf(numbers ...int) string {
	var out []byte
	for _, n := range numbers {
		for ; n > 127; n /= 128 {
			out = append(out, byte(n%128+128))
		}
		out = append(out, byte(n))
	}
	return string(out)
}

func system(t testing.TB, n api.Net) api.System {
	t.Helper()
	s, code := net.Of(n)
	if code != api.OK || s == nil {
		t.Fatalf("%v: %v", n, code)
	}
	return s
}

func static(t testing.TB, x api.Threads) api.Static {
	t.Helper()
	s, code := net.OfThreads(x)
	if code != api.OK || s == nil {
		t.Fatalf("%v: %v", x, code)
	}
	return s
}

func explored(t testing.TB, s api.System, most int) (api.Net, []string) {
	t.Helper()
	n, states, code := net.Explore(s, most)
	if code != api.OK || len(n.Nodes) != len(states) {
		t.Fatal(code, len(n.Nodes), len(states))
	}
	return n, states
}

// someList is numbers by chance, rising and unlike.
func someList(r *rand.Rand) []int {
	var out []int
	for n := range 6 {
		if r.Intn(4) == 0 {
			out = append(out, n*n*n)
		}
	}
	return out
}

// someNet is a graph by chance, of at most so many nodes.
func someNet(r *rand.Rand, most int) api.Net {
	n := api.Net{Nodes: make([]api.NetNode, 1+r.Intn(most))}
	for i := range n.Nodes {
		n.Nodes[i] = api.NetNode{Props: r.Uint64(), End: r.Intn(2) == 0, Progress: r.Intn(2) == 0, Accept: r.Intn(2) == 0}
		for range r.Intn(4) {
			a := api.Arc{Proc: r.Intn(17) - 1, To: r.Intn(len(n.Nodes)), Reads: someList(r), Writes: someList(r), Turns: r.Uint64()}
			if r.Intn(4) == 0 {
				a.To, a.Bad = 0, 1+r.Intn(api.BadDstep)
			}
			n.Nodes[i].Arcs = append(n.Nodes[i].Arcs, a)
		}
	}
	return n
}

// someThreads are threads by chance: few objects and values, so that they have to do with each other; values of one byte and of two.
func someThreads(r *rand.Rand) api.Threads {
	values := []int{0, 1, 127, 128, 255}[r.Intn(4):][:2]
	value := func() int { return values[r.Intn(2)] }
	x := api.Threads{Procs: make([][]api.ThreadNode, r.Intn(4))}
	for range r.Intn(4) {
		x.Init = append(x.Init, value())
	}
	object := func() int { return r.Intn(max(1, len(x.Init))) }
	for p := range x.Procs {
		x.Procs[p] = make([]api.ThreadNode, 1+r.Intn(5))
		for i := range x.Procs[p] {
			n := &x.Procs[p][i]
			n.End, n.Progress, n.Accept = r.Intn(2) == 0, r.Intn(3) == 0, r.Intn(3) == 0
			for range r.Intn(4) {
				a := api.ThreadArc{To: r.Intn(len(x.Procs[p])), Object: object(), Value: value(), SetObject: object(), SetTo: value()}
				a.Test, a.Set = len(x.Init) > 0 && r.Intn(3) == 0, len(x.Init) > 0 && r.Intn(2) == 0
				if r.Intn(6) == 0 {
					a.Bad = 1 + r.Intn(api.BadDstep)
				}
				n.Arcs = append(n.Arcs, a)
			}
		}
	}
	for range r.Intn(5) {
		if len(x.Init) > 0 {
			x.Props = append(x.Props, api.ThreadProp{Object: object(), Value: value()})
		}
	}
	return x
}

// numbersOf is a state of threads by chance, reached or not: the objects' values, then the processes' nodes.
func numbersOf(r *rand.Rand, x api.Threads) []int {
	var out []int
	for range x.Init {
		out = append(out, []int{0, 1, 127, 128, 255, r.Intn(256)}[r.Intn(6)])
	}
	for _, nodes := range x.Procs {
		out = append(out, r.Intn(len(nodes)))
	}
	return out
}

// noNumbers are bytes that are no number's below 2^40, or not of one alone.
var noNumbers = []string{"", "\x80", "\x80\x00", "\x81\x00", "\x00\x00", "\x00\x01", "\x00\x80", "\xff\xff\xff\xff\xff\xff\xff\xff\xff\x01", "\xff\xff\xff\xff\xff\xff\xff\xff\xff\x02", "\x80\x80\x80\x80\x80\x80\x80\x80\x80\x01", "\x80\x80\x80\x80\x80\x80\x80\x80\x80\x80\x00", "\xff\xff\xff\xff\xff\xff\xff\xff\x7f", "\x80\x80\x80\x80\x10", "a state", "\xff"}
