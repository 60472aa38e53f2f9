package prune

// set holds numbers of assertions.
type set map[int]struct{}

// put takes a number in.
func (s set) put(n int) { s[n] = struct{}{} }

// has tells whether a number is in the set.
func (s set) has(n int) bool {
	_, in := s[n]
	return in
}
