package store_test

import (
	"math"
	"testing"

	"sextant/api"
	"sextant/store"
)

// P19.1: whatever room it has, a new store is empty
func TestNewEmpty(t *testing.T) {
	rooms := []int{math.MinInt, -1 << 40, -2, -1, 0, 1, 2, 1 << 20, 1 << 40, math.MaxInt - 1, math.MaxInt}
	for _, states := range rooms {
		for _, bytes := range rooms {
			s := store.New(states, bytes)
			holds(t, s)
			for _, x := range []string{"", "\x00", "a"} {
				finds(t, s, x, 0, false)
			}
		}
	}
}

// P19.1: a number below 0 is as 0: there is room for nothing, or for nothing but the state without bytes
func TestNewBelowNothing(t *testing.T) {
	for _, none := range []int{0, -1, -2, -1000, math.MinInt} {
		for _, x := range []string{"", "\x00", "ab"} {
			s := store.New(none, 9)
			puts(t, s, x, 0, false, api.ErrFull)
			holds(t, s)
		}
		s := store.New(2, none)
		puts(t, s, "a", 0, false, api.ErrFull)
		puts(t, s, "", 0, true, api.OK)
		puts(t, s, "a", 0, false, api.ErrFull)
		puts(t, s, "", 0, false, api.OK)
		holds(t, s, "")
		s = store.New(none, none)
		puts(t, s, "", 0, false, api.ErrFull)
		holds(t, s)
	}
}

// P19.1: there may be room for more than will ever come, in numbers that can't be added
func TestNewGreat(t *testing.T) {
	for _, states := range []int{3, 1 << 50, math.MaxInt} {
		for _, bytes := range []int{4, 1 << 50, math.MaxInt} {
			s := store.New(states, bytes)
			puts(t, s, "ab", 0, true, api.OK)
			puts(t, s, "", 1, true, api.OK)
			puts(t, s, "cd", 2, true, api.OK)
			holds(t, s, "ab", "", "cd")
		}
	}
}

// P19.1, P19.2: there is room for just so many states
func TestRoomForStates(t *testing.T) {
	for most := range 70 {
		s := store.New(most, 1<<20)
		var list []string
		for i := range most {
			list = append(list, string(rune('0'+i)))
			puts(t, s, list[i], i, true, api.OK)
		}
		for _, x := range []string{"", "x", "\x00", "0 "} {
			puts(t, s, x, 0, false, api.ErrFull)
			finds(t, s, x, 0, false)
		}
		holds(t, s, list...)
	}
}

// P19.1, P19.2: there is room for just so many bytes of all states together
func TestRoomForBytes(t *testing.T) {
	long := "abcdefghijklmnopqrstuvwxyz"
	for first := range 10 {
		for second := range 10 {
			for most := range 25 {
				s := store.New(9, most)
				x, y := long[:first], "-"+long[:second]
				var list []string
				for _, z := range []string{x, y} {
					if left := most - s.Bytes(); len(z) <= left {
						puts(t, s, z, len(list), true, api.OK)
						list = append(list, z)
					} else {
						puts(t, s, z, 0, false, api.ErrFull)
					}
				}
				holds(t, s, list...)
			}
		}
	}
}
