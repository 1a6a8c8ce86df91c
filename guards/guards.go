// Package guards is guards of letters: what the automata's packages ask of them. A guard's Yes and No have no bit in common.
package guards

import (
	"cmp"
	"math/bits"

	"sextant/api"
)

// Has tells whether a guard has a letter.
func Has(g api.Guard, letter uint64) bool {
	return letter&g.Yes == g.Yes && letter&g.No == 0
}

// Wider tells whether a guard has all letters that another one has.
func Wider(x, y api.Guard) bool {
	return x.Yes&^y.Yes == 0 && x.No&^y.No == 0
}

// Both is the guard of the letters that two guards have, and true; false, if there are none.
func Both(x, y api.Guard) (api.Guard, bool) {
	g := api.Guard{Yes: x.Yes | y.Yes, No: x.No | y.No}
	if g.Yes&g.No != 0 {
		return api.Guard{}, false
	}
	return g, true
}

// Joined is the guard that has the letters of two guards alone, and true, if these are the same but for one bit, which one asks for and the other one does not.
func Joined(x, y api.Guard) (api.Guard, bool) {
	bit := x.Yes ^ y.Yes
	both := api.Guard{Yes: x.Yes &^ bit, No: x.No &^ bit}
	if bits.OnesCount64(bit) != 1 || both != (api.Guard{Yes: y.Yes &^ bit, No: y.No &^ bit}) {
		return api.Guard{}, false
	}
	return both, true
}

// Without is the guard of the letters that a guard has and another one hasn't, and true; false, if the same letters are left, none, or such that no guard has alone.
func Without(x, y api.Guard) (api.Guard, bool) {
	yes, no := y.Yes&^x.Yes, y.No&^x.No
	if _, ok := Both(x, y); !ok || bits.OnesCount64(yes|no) != 1 {
		return api.Guard{}, false
	}
	return api.Guard{Yes: x.Yes | no, No: x.No | yes}, true
}

// Narrow takes from elements the letters that another one has, too, which is as good or better, where what is left is a guard's. That one still has them then, so that no letter is lost. Once some have been taken, what others leave may be a guard's, so that all are tried again. It takes from looks what it looks at; if there are none left, it takes no more letters.
func Narrow[T any](list []T, guard func(x *T) *api.Guard, better func(x, y *T) bool, looks *int) {
	for i := range list {
		own := guard(&list[i])
		for k := 0; k < len(list); k++ {
			*looks--
			if *looks < 0 {
				return
			}
			if less, ok := Without(*own, *guard(&list[k])); ok && better(&list[k], &list[i]) {
				*own = less
				k = -1
			}
		}
	}
}

// Cover tells whether guards have all letters that a guard has, between them; it may put them in another order. It takes from looks what it looks at; if there are none left, it says no.
func Cover(by []api.Guard, g api.Guard, looks *int) bool {
	*looks -= 1 + len(by)
	if *looks < 0 {
		return false
	}
	known := g.Yes | g.No
	some, share := 0, 0
	for i, x := range by {
		if x.Yes&g.No != 0 || x.No&g.Yes != 0 {
			continue
		}
		more := bits.OnesCount64((x.Yes | x.No) &^ known)
		if more == 0 {
			return true
		}
		share += max(1, whole>>more)
		by[some], by[i] = x, by[some]
		some++
	}
	if share < whole {
		return false
	}
	bit := (by[0].Yes | by[0].No) &^ known
	bit &= -bit
	with, without := api.Guard{Yes: g.Yes | bit, No: g.No}, api.Guard{Yes: g.Yes, No: g.No | bit}
	return Cover(by[:some], with, looks) && Cover(by[:some], without, looks)
}

// whole is all letters that a guard has, of which those that ask for one bit more have half, and so on: guards whose shares are less together can't cover it.
const whole = 1 << 40

// Compare puts guards in an order.
func Compare(x, y api.Guard) int {
	if x.Yes != y.Yes {
		return cmp.Compare(x.Yes, y.Yes)
	}
	return cmp.Compare(x.No, y.No)
}
