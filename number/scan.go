package number

import (
	"pergola/api"
)

// Prefix looks at the number text that begins at a place.
func Prefix[C ~uint8 | ~int32](s []C, at int) (end int, stop int, form api.Form) {
	if at < 0 || at > len(s) {
		return 0, 0, api.FormNone
	}
	first := at
	if is(s, first, '-') {
		first++
	}
	end = behindWhole(s, first)
	if end == first {
		return at, first, api.FormNone
	}
	whole := end
	end, stop = behindPart(s, end, behindPoint(s, end))
	// A fraction that is not all there leaves no room for an exponent.
	if end == stop {
		end, stop = behindPart(s, end, behindMark(s, end))
	}
	if end > whole {
		return end, stop, api.FormFraction
	}
	return end, stop, api.FormWhole
}

// behindWhole is the place behind the whole part that begins at a place; the place itself, if none does.
func behindWhole[C ~uint8 | ~int32](s []C, at int) int {
	if is(s, at, '0') {
		return at + 1
	}
	return behindDigits(s, at)
}

// behindPart is the place behind a fraction or an exponent at a place, if all of it is there, else the place; and the place behind as much of it as is there. Its digits begin at the place first, which is at where its first character is missing.
func behindPart[C ~uint8 | ~int32](s []C, at, first int) (end, stop int) {
	if first == at {
		return at, at
	}
	stop = behindDigits(s, first)
	if stop == first {
		return at, stop
	}
	return stop, stop
}

// behindPoint is the place where a fraction's digits would begin.
func behindPoint[C ~uint8 | ~int32](s []C, at int) int {
	if is(s, at, '.') {
		return at + 1
	}
	return at
}

// behindMark is the place where an exponent's digits would begin.
func behindMark[C ~uint8 | ~int32](s []C, at int) int {
	if !is(s, at, 'e') && !is(s, at, 'E') {
		return at
	}
	if is(s, at+1, '+') || is(s, at+1, '-') {
		return at + 2
	}
	return at + 1
}

// behindDigits is the place behind the digits that stand from a place on.
func behindDigits[C ~uint8 | ~int32](s []C, at int) int {
	for at < len(s) && '0' <= s[at] && s[at] <= '9' {
		at++
	}
	return at
}

// is: does c stand at a place?
func is[C ~uint8 | ~int32](s []C, at int, c C) bool {
	return at < len(s) && s[at] == c
}
