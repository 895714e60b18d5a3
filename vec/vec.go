// Package vec: so much of two things. See doc/01-vec.md.
package vec

import (
	"math"

	"joinery/api"
)

// Right tells whether no part of v is below 0.
func Right(v api.Vec) bool {
	return v == raised(v)
}

// Add adds part by part: ErrArg, if one is not right; ErrRoom, if a sum is above 2^63 - 1.
func Add(a, b api.Vec) (api.Vec, api.Errno) {
	if !Right(a) || !Right(b) {
		return api.Vec{}, api.ErrArg
	}
	if !Fits(b, above(a)) {
		return api.Vec{}, api.ErrRoom
	}
	return api.Vec{Cpu: a.Cpu + b.Cpu, Mem: a.Mem + b.Mem}, api.OK
}

// Sub takes b from a part by part: ErrArg, if one is not right; ErrRoom, if a part of b is greater.
func Sub(a, b api.Vec) (api.Vec, api.Errno) {
	if !Right(a) || !Right(b) {
		return api.Vec{}, api.ErrArg
	}
	if !Fits(b, a) {
		return api.Vec{}, api.ErrRoom
	}
	return api.Vec{Cpu: a.Cpu - b.Cpu, Mem: a.Mem - b.Mem}, api.OK
}

// Fits tells whether no part of need is greater than room's.
func Fits(need, room api.Vec) bool {
	return greater(need, room) == [2]bool{}
}

// raised is v with each part that is below 0 put up to 0: only a right one stays as it is.
func raised(v api.Vec) api.Vec {
	return api.Vec{Cpu: max(v.Cpu, 0), Mem: max(v.Mem, 0)}
}

// above tells how much may be added to a right v. Asked ahead of adding, since a sum that wraps round looks like any other.
func above(v api.Vec) api.Vec {
	return api.Vec{Cpu: math.MaxInt64 - v.Cpu, Mem: math.MaxInt64 - v.Mem}
}

// greater tells of each part whether a's is greater than b's. The parts are compared, not subtracted, since Fits takes any numbers and a difference may wrap round.
func greater(a, b api.Vec) [2]bool {
	return [2]bool{a.Cpu > b.Cpu, a.Mem > b.Mem}
}
