// Package sample makes the specifications, formulas, models, circuits and clauses that the tests of the layers are run on. It is used by tests only.
//
// A sample depends on nothing but the seed of its source and the calls made before, so that a failing test fails again.
package sample

// Source is a sequence of numbers that a seed determines.
type Source struct{ state uint64 }

// New returns the source with a seed.
func New(seed int) *Source {
	return &Source{state: uint64(seed)*2862933555777941757 + 3037000493}
}

// Below returns a number from 0 to n-1, or 0 if n is less than 1.
func (s *Source) Below(n int) int {
	s.state = s.state*6364136223846793005 + 1442695040888963407
	if n < 1 {
		return 0
	}
	x := s.state ^ s.state>>29
	return int((x >> 20) % uint64(n))
}

// Between returns a number from low to high.
func (s *Source) Between(low, high int) int {
	return low + s.Below(high-low+1)
}

// Chance is true in the given percentage of cases.
func (s *Source) Chance(percent int) bool {
	return s.Below(100) < percent
}

// Pick returns an element of a list that is not empty.
func Pick[T any](s *Source, l []T) T {
	return l[s.Below(len(l))]
}

// Shuffle returns the elements of a list in another order.
func Shuffle[T any](s *Source, l []T) []T {
	out := append([]T(nil), l...)
	for i := range out {
		j := i + s.Below(len(out)-i)
		out[i], out[j] = out[j], out[i]
	}
	return out
}
