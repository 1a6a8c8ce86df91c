package step_test

import (
	"testing"

	"sextant/api"
)

const meeting = "chan z = [0] of { byte, byte }, o = [0] of { byte, byte }, k; byte x, y, a[2]; "

// P8.2: a send on a channel for 0 messages meets each receive that fits, by rising numbers
func TestMeetings(t *testing.T) {
	judgeTurns(t, []turn{
		{meeting + "active proctype A() { z ! 1, 2 }", nil, ""},
		{meeting + "active proctype A() { z ? x, y }", nil, ""},
		{meeting + "active proctype A() { if :: z ! 1, 2 :: z ? x, y fi }", nil, ""},
		{meeting + "active [2] proctype A() { if :: z ! 1, 2 :: z ? x, y fi }", nil, "0.0+1.1 [1 2 0 1 2 0 0] [] [] 1[] 1[]; 1.0+0.1 [1 2 0 1 2 0 0] [] [] 1[] 1[]"},
		{meeting + "active proctype R() { z ? x, _ } active proctype A() { z ! 300, 2 } active [2] proctype S() { z ? _, y }", nil, "1.0+0.0 [1 2 0 44 0 0 0] [] [] 1[] 1[] 0[] 0[]; 1.0+2.0 [1 2 0 0 2 0 0] [] [] 0[] 1[] 1[] 0[]; 1.0+3.0 [1 2 0 0 2 0 0] [] [] 0[] 1[] 0[] 1[]"},
		{meeting + "active proctype A() { z ! 1, 2 } active proctype B() { if :: o ? x, y :: z ? 2, y :: skip :: z ? 1, x :: z ? eval(y + 1), y fi }", nil, "0.0+1.3 [1 2 0 2 0 0 0] [] [] 1[] 1[]; 0.0+1.4 [1 2 0 0 2 0 0] [] [] 1[] 1[]; 1.2 [1 2 0 0 0 0 0] [] [] 0[] 1[]"},
		{meeting + "active proctype A() { z ! 1, 7 } active proctype B() { z ? x, a[x] }", nil, "0.0+1.0 [1 2 0 1 0 0 7] [] [] 1[] 1[]"},
		{meeting + "active proctype A() { byte l = 1; z ! l, 7 } active proctype B() { byte l, m; z ? m, l }", nil, "0.0+1.0 [1 2 0 0 0 0 0] [] [] 1[1] 1[7 1]"},
		{meeting + "active proctype A() { z !! 1, 7 } active proctype B() { z ?? <x, y> }", nil, "0.0+1.0 [1 2 0 1 7 0 0] [] [] 1[] 1[]"},
		{meeting + "active proctype A() { z ! _pid, 7 } active proctype B() { z ? eval(_pid - 1), y }", nil, "0.0+1.0 [1 2 0 0 7 0 0] [] [] 1[] 1[]"},
		{meeting + "active proctype A() { z ! 1, 7 } active proctype B() { chan h; h = z; h ? x, y }", []int{0}, "0.0+1.0 [1 2 0 1 7 0 0] [] [] 1[] 1[1]"},
		{meeting + "active proctype A() { z ! 1, 7 } active proctype B() { z ? [1, 7] -> z ? x, y }", nil, ""},
	})
}

// P8.2: what is wrong with a meeting is its way's; a receive whose channel is wrong is none
func TestBadMeetings(t *testing.T) {
	judgeTurns(t, []turn{
		{meeting + "active proctype A() { z ! 1, 2 } active proctype B() { z ? x, a[x + 1] }", nil, "0.0+1.0 bad 3"},
		{meeting + "active proctype A() { z ! 1, 2 } active proctype B() { if :: z ? eval(1 / x), y :: z ? x, y fi }", nil, "0.0+1.0 bad 2; 0.0+1.1 [1 2 0 1 2 0 0] [] [] 1[] 1[]; 1.0 bad 2"},
		{meeting + "active proctype A() { z ! 1, 2 } active proctype B() { k = z; k ? x }", []int{0}, "0.0+1.0 bad 4; 1.0 bad 4"},
		{meeting + "active proctype A() { z ! 1, 2 } active proctype B() { k ? x, y }", nil, "1.0 bad 4"},
		{meeting + "active proctype A() { z ! 1, 2 } active proctype B() { chan h[2]; h[x / y] ? x, y }", nil, "1.0 bad 2"},
		{meeting + "active proctype A() { z ! 1, 2 / x } active proctype B() { z ? x, y }", nil, "0.0 bad 2"},
		{meeting + "active proctype A() { k = z; k ! 1 } active proctype B() { z ? x, y }", []int{0}, "0.0 bad 4"},
	})
}

// P8.2: of one who meets just the groups count up to the first one that has a way by itself
func TestGroupsThatMeet(t *testing.T) {
	judgeTurns(t, []turn{
		{meeting + "active proctype A() { z ! 1, 2 } active proctype B() { { z ? x, _ } unless { y > 0 } }", nil, "0.0+1.1 [1 2 0 1 0 0 0] [] [] 1[] 1[]"},
		{meeting + "active proctype A() { z ! 1, 2 } active proctype B() { { z ? x, _ } unless { y == 0 } }", nil, "1.0 [1 2 0 0 0 0 0] [] [] 0[] 1[]"},
		{meeting + "active proctype A() { z ! 1, 2 } active proctype B() { { z ? x, _ } unless { if :: y == 0 :: z ? y, _ fi } }", nil, "0.0+1.1 [1 2 0 0 1 0 0] [] [] 1[] 1[]; 1.0 [1 2 0 0 0 0 0] [] [] 0[] 1[]"},
		{meeting + "active proctype A() { z ! 1, 2 } active proctype B() { { z ? x, _ } unless { if :: y > 0 :: z ? y, _ fi } }", nil, "0.0+1.1 [1 2 0 0 1 0 0] [] [] 1[] 1[]; 0.0+1.2 [1 2 0 1 0 0 0] [] [] 1[] 1[]"},
		{meeting + "active proctype A() { z ! 1, 2 } active proctype B() { { z ? x, _ } unless { if :: y > 0 :: else fi } }", nil, "1.1 [1 2 0 0 0 0 0] [] [] 0[] 1[]"},
		{meeting + "active proctype A() { z ! 1, 2 } active proctype B() { { z ? x, _ } unless { if :: else :: y > 0 fi } }", nil, "1.0 [1 2 0 0 0 0 0] [] [] 0[] 1[]"},
		{meeting + "active proctype A() { z ! 1, 2 } active proctype B() { { z ? x, _ } unless { 1 / x } }", nil, "1.0 bad 2"},
		{meeting + "active proctype A() { z ! 1, 2 } active proctype B() { { z ? x, _ } unless { o ! 1, 2 } } active proctype C() { o ? _, y }", nil, "0.0+1.1 [1 2 0 1 0 0 0] [] [] 1[] 1[] 0[]; 1.0+2.0 [1 2 0 0 2 0 0] [] [] 0[] 1[] 1[]"},
		{meeting + "active proctype A() { z ! 1, 2 } active proctype B() { { z ? x, _ } unless { d_step { x = 1; y > 0 } } }", nil, "1.0 bad 5"},
		{meeting + "active proctype A() { timeout -> z ! 1, 2 } active proctype B() { { z ? x, _ } unless { timeout } }", nil, "0.0 [1 2 0 0 0 0 0] [] [] 2[] 0[]; 1.0 [1 2 0 0 0 0 0] [] [] 0[] 1[]"},
	})
}

// P8.2: behind a meeting the one who received goes on alone, if its node says so; else the one who sent
func TestAloneBehindMeetings(t *testing.T) {
	judgeTurns(t, []turn{
		{meeting + "active proctype A() { atomic { z ! 1, 2; skip } } active proctype B() { z ? _, _; skip }", nil, "0.0+1.0 [1 2 0 0 0 0 0] [] [] 2[] 2[] alone 0"},
		{meeting + "active proctype A() { z ! 1, 2; skip } active proctype B() { atomic { z ? _, _; skip } }", nil, "0.0+1.0 [1 2 0 0 0 0 0] [] [] 2[] 2[] alone 1"},
		{meeting + "active proctype A() { atomic { z ! 1, 2; skip } } active proctype B() { atomic { z ? _, _; skip } }", nil, "0.0+1.0 [1 2 0 0 0 0 0] [] [] 2[] 2[] alone 1"},
		{meeting + "active proctype A() { atomic { skip; z ! 1, 2 } } active proctype B() { z ? _, _; skip }", []int{0}, "0.0+1.0 [1 2 0 0 0 0 0] [] [] 1[] 2[]"},
		{meeting + "active proctype A() { atomic { skip; z ? x, y } } active proctype B() { z ! 1, 2 }", []int{0}, "1.0+0.0 [1 2 0 1 2 0 0] [] [] 1[] 1[]"},
	})
}

// P8.2: a channel's number may be that of one made by a process
func TestMeetingOnAProcessesChannel(t *testing.T) {
	text := "chan k; active proctype A() { chan c = [0] of { byte }; k = c; c ! 3 } active proctype B() { byte l; k != 0; k ? l }"
	judgeTurns(t, []turn{{text, []int{0, 0}, "0.0+1.0 [1] [] 1[1] 1[3]"}})
	m := model(t, text)
	s := gone(t, m, 0, 0)
	s.Vars[0] = 2
	if got := shorts(ways(m, s)); got != "1.0 bad 4" {
		t.Error(got)
	}
	if l := ways(m, gone(t, m, 0, 0)); len(l) != 1 || l[0].Bad != api.BadNone {
		t.Error(shorts(l))
	}
}
