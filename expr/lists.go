package expr

import (
	"cmp"
	"slices"
)

// compare orders lists by their lengths, and those of one length by the first place at which they differ.
func compare[T cmp.Ordered](a, b []T) int {
	if len(a) != len(b) {
		return cmp.Compare(len(a), len(b))
	}
	return slices.Compare(a, b)
}

// pick gives what keep takes of a list, each once, rising.
func pick[T cmp.Ordered](list []T, keep func(T) bool) []T {
	var picked []T
	for _, x := range list {
		if keep(x) {
			picked = append(picked, x)
		}
	}
	slices.Sort(picked)
	return slices.Compact(picked)
}

// join lays lists one behind the other, if that has at most so many items: each is measured ahead of being laid, so that nothing longer is ever made.
func join[T any](most int, parts ...[]T) ([]T, bool) {
	var whole []T
	for _, part := range parts {
		if len(part) > most-len(whole) {
			return nil, false
		}
		whole = append(whole, part...)
	}
	return whole, true
}

// places goes over the list once, and never back in it: lists may be long, and parts repeat themselves.
func places[T comparable](list, part []T) []int {
	if len(part) == 0 {
		return upTo(len(list))
	}
	if len(part) > len(list) {
		return nil
	}
	var found []int
	again := borders(part)
	fit := 0
	for i, x := range list {
		fit = extend(part, again, fit, x)
		if fit == len(part) {
			found = append(found, i+1-fit)
		}
	}
	return found
}

// upTo gives 0 to n.
func upTo(n int) []int {
	numbers := make([]int, n+1)
	for i := range numbers {
		numbers[i] = i
	}
	return numbers
}

// extend: the part's first fit items were met last, and now x is: how many of its first items were met last then. Where x does not go on with them, the next shorter beginning with which they end is tried: again tells its length.
func extend[T comparable](part []T, again []int, fit int, x T) int {
	for fit > 0 && (fit == len(part) || part[fit] != x) {
		fit = again[fit-1]
	}
	if part[fit] == x {
		return fit + 1
	}
	return fit
}

// borders tells of each beginning of the part (of one item, of two ..) how long the longest shorter beginning is with which it ends. These lengths grow from item to item by the rule by which a fit does.
func borders[T comparable](part []T) []int {
	lengths := make([]int, len(part))
	for i := 1; i < len(part); i++ {
		lengths[i] = extend(part, lengths, lengths[i-1], part[i])
	}
	return lengths
}
