// Package stamp: points in time that all nodes can compare. See shared/doc/01-stamp.md.
package stamp

import (
	"strconv"
	"strings"

	"dovecote/api"
)

// Right tells whether both parts of t are within their limits.
func Right(t api.Ts) bool {
	return t.P <= api.MaxPhys && t.L <= api.MaxLogic
}

// Less tells whether a is before b; neither need be right.
func Less(a, b api.Ts) bool {
	if a.P != b.P {
		return a.P < b.P
	}
	return a.L < b.L
}

// Max answers the greatest of l, the zero stamp of none.
func Max(l ...api.Ts) api.Ts {
	var most api.Ts // no stamp is below the zero one
	for _, t := range l {
		if Less(most, t) {
			most = t
		}
	}
	return most
}

// Next answers the least right stamp above t.
func Next(t api.Ts) (api.Ts, api.Errno) {
	if !Right(t) {
		return api.Ts{}, api.ErrArg
	}
	if t.L < api.MaxLogic {
		return api.Ts{P: t.P, L: t.L + 1}, api.OK
	}
	if t.P < api.MaxPhys {
		return api.Ts{P: t.P + 1}, api.OK
	}
	return api.Ts{}, api.ErrOver
}

// Text writes t in base 10, a point between its parts.
func Text(t api.Ts) string {
	return strconv.FormatUint(t.P, 10) + "." + strconv.FormatUint(uint64(t.L), 10)
}

// Read answers the right stamp of which s is the Text.
func Read(s string) (api.Ts, api.Errno) {
	phys, logic, _ := strings.Cut(s, ".")
	p, errP := strconv.ParseUint(phys, 10, 64)
	l, errL := strconv.ParseUint(logic, 10, 32)
	if errP != nil || errL != nil {
		return api.Ts{}, api.ErrForm
	}
	t := api.Ts{P: p, L: uint32(l)}
	// Leading zeros are read as numbers all the same: only the stamp's own text is taken.
	if !Right(t) || Text(t) != s {
		return api.Ts{}, api.ErrForm
	}
	return t, api.OK
}

// Point answers t as a number of the complex plane, 0 if t isn't right.
func Point(t api.Ts) complex128 {
	if !Right(t) {
		return 0
	}
	return complex(float64(t.P), float64(t.L))
}

// Of answers the right stamp of which z is the Point.
func Of(z complex128) (api.Ts, api.Errno) {
	p, okP := whole(real(z), api.MaxPhys)
	l, okL := whole(imag(z), api.MaxLogic)
	if !okP || !okL {
		return api.Ts{}, api.ErrForm
	}
	return api.Ts{P: p, L: uint32(l)}, api.OK
}

// whole answers x as a whole number from 0 to most; false, if it is none.
func whole(x, most float64) (uint64, bool) {
	// Asked this way round, what is no number fails too. Past its range a
	// float's conversion hangs on the machine, so the range is asked first.
	if !(x >= 0 && x <= most) {
		return 0, false
	}
	n := uint64(x)
	if float64(n) != x {
		return 0, false
	}
	return n, true
}
