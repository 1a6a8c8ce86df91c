package graph_test

import (
	"reflect"
	"strings"
	"testing"

	"sextant/api"
	"sextant/check"
	"sextant/graph"
)

// steps are n statements.
func steps(n int) string {
	return strings.Repeat("skip;", n-1) + "skip"
}

// bounded holds a program of as many nodes as may be against one with more, whose place a $ marks.
func bounded(t *testing.T, most, more string) {
	t.Helper()
	if !graph.Valid(model(t, most)) {
		t.Errorf("%.80q: its model may not be", most)
	}
	at := strings.Index(more, "$")
	l := read(t, strings.Replace(more, "$", "", 1))
	want := api.Mishap{Code: api.ErrGreat, At: at}
	if m, wrong := graph.Model(l); wrong != want || check.Check(l) != want || !reflect.DeepEqual(m, api.Model{}) {
		t.Errorf("%.80q: %v at %d; it is %v at %d", more, wrong.Code, wrong.At, want.Code, want.At)
	}
}

// P6.1, P6.3: as many nodes as may be
func TestManyNodes(t *testing.T) {
	bounded(t, "init { "+steps(api.MaxNodes-1)+" }", "init { "+steps(api.MaxNodes-3)+"; $skip; skip; skip }")
	bounded(t, "init { "+steps(1000)+"; d_step { "+steps(1000)+" } } never { "+steps(1996)+" }", "init { "+steps(1000)+"; d_step { "+steps(1000)+" } } never { "+steps(1994)+"; $skip; skip; skip }")
	bounded(t, "init { { "+steps(1000)+" } unless { "+steps(2999)+" } }", "init { { "+steps(1000)+" } unless { "+steps(2997)+"; $skip; skip; skip } }")
}

// P6.1, P6.3: the nodes of d_steps behind an unless count at each node that they are put ahead of, as they do in the model
func TestManyRescuedNodes(t *testing.T) {
	bounded(t, "init { { skip; skip } unless { d_step { "+steps(1331)+" } } }", "init { { skip; skip } unless { d_step { "+steps(1331)+"; $skip } } }")
	bounded(t, "init { { skip; skip } unless { if :: d_step { "+steps(331)+" } :: skip :: d_step { "+steps(999)+" } fi } }", "init { { skip; skip } unless { if :: d_step { "+steps(332)+" } :: skip :: d_step { "+steps(998)+"; $skip } fi; } }")
	bounded(t, "init { { "+steps(999)+" } unless { d_step { skip }; "+steps(999)+" } }", "init { { "+steps(999)+" } unless { d_step { skip }; "+steps(999)+"; $skip } }")
	bounded(t, "init { { skip } unless { d_step { skip } }; "+steps(3993)+" }", "init { { skip } unless { d_step { skip } }; "+steps(3991)+"; $skip; skip; skip }")
}

// P6.1: a model that is greater than what may be answered is told by no more than an error
func TestGreatModel(t *testing.T) {
	l := read(t, "byte x; init { { "+steps(3000)+" } unless { printf(\"\""+strings.Repeat(", x", 9000)+") } }")
	if wrong := check.Check(l); wrong != (api.Mishap{}) {
		t.Error(wrong)
	}
	if m, wrong := graph.Model(l); wrong != (api.Mishap{Code: api.ErrGreat}) || !reflect.DeepEqual(m, api.Model{}) {
		t.Error(wrong, len(m.Procs))
	}
	m := model(t, "byte x, a[3]; init { { "+steps(300)+" } unless { printf(\"\""+strings.Repeat(", a[x]", 700)+") } }")
	if !graph.Valid(m) || len(spans(m)) < 300*700 {
		t.Error(len(spans(m)))
	}
}
