// Package zig tells numbers by their size: see DOC.md, chapter 1.
package zig

import (
	"math/bits"

	"wringer/api"
)

// number is one as it is handed in, on either side of 0.
type number int64

// folded is a number as Map tells it: near 0 on either side, it is small.
type folded uint64

// part is a number as Split tells it.
type part api.Part

// Map tells v as a number from 0 on.
func Map(v int64) uint64 { return told(number(v).fold) }

// Back tells the number whose Map u is.
func Back(u uint64) int64 { return told(folded(u).unfold) }

// Split tells v's size, and what else tells it from the others of its size.
func Split(v int64) api.Part { return sized(number(v).fold) }

// Join tells the number whose Split p is, or false if there is none.
func Join(p api.Part) (int64, bool) { return numbered(part(p).fold) }

// fold takes the complement of what is below 0, not the negative: the least
// int64 has a complement, but no negative.
func (v number) fold() uint64 {
	if v < 0 {
		return uint64(^v)<<1 | 1
	}
	return uint64(v) << 1
}

func (u folded) unfold() int64 {
	half := int64(u >> 1)
	if u&1 == 1 {
		return ^half
	}
	return half
}

// fold asks the Class before it shifts by it: a shift by less than 0 panics.
func (p part) fold() (uint64, bool) {
	if p.Class == 0 {
		return 0, p.Rest == 0
	}
	if p.Class < 0 || p.Class >= api.Classes {
		return 0, false
	}
	top := highest(p.Class)
	if p.Rest >= top {
		return 0, false
	}
	return top + p.Rest, true
}

func told[T any](step func() T) T { return step() }

func sized(fold func() uint64) api.Part {
	u := fold()
	if u == 0 {
		return api.Part{}
	}
	class := bits.Len64(u)
	return api.Part{Class: class, Rest: u - highest(class)}
}

func numbered(fold func() (uint64, bool)) (int64, bool) {
	u, ok := fold()
	if !ok {
		return 0, false
	}
	return told(folded(u).unfold), true
}

// highest is the bit that all numbers of a class from 1 on have, and that
// Rest need not tell.
func highest(class int) uint64 { return 1 << (class - 1) }
