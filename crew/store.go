package crew

import (
	"slices"
	"sync"

	"quarry/api"
	"quarry/rows"
)

// piece is a morsel: the rows from the one number up to the other.
type piece struct {
	number   int
	from, to int
}

// store has what is still to be done of a job, and what came of it so far. All workers share it, so
// everything in it is read and written under its lock.
type store[T any] struct {
	lock   sync.Mutex
	size   int
	morsel int
	taken  int        // how many pieces have been
	came   int        // of all pieces together
	done   [][]T      // what came of each piece, in the order of pieces, whoever was ready first
	least  rows.Place // of the rows that err; nil as long as there is none
}

func newStore[T any](size, morsel int) *store[T] {
	pieces := (size + morsel - 1) / morsel
	return &store[T]{size: size, morsel: morsel, done: make([][]T, pieces)}
}

// take hands out a piece that nobody has taken yet, if there is one that is still of use.
func (s *store[T]) take() (piece, bool) {
	s.lock.Lock()
	defer s.lock.Unlock()
	if s.taken == len(s.done) || s.came > api.MaxOut {
		return piece{}, false
	}
	from := s.taken * s.morsel
	p := piece{number: s.taken, from: from, to: min(from+s.morsel, s.size)}
	s.taken++
	return p, true
}

func (s *store[T]) put(p piece, came []T) {
	s.lock.Lock()
	defer s.lock.Unlock()
	s.done[p.number] = came
	s.came += len(came)
}

func (s *store[T]) fail(place rows.Place) {
	s.lock.Lock()
	defer s.lock.Unlock()
	if s.least == nil || slices.Compare(place, s.least) < 0 {
		s.least = place
	}
}

func (s *store[T]) outcome() ([]T, rows.Place) {
	s.lock.Lock()
	defer s.lock.Unlock()
	if s.least != nil {
		return nil, s.least
	}
	return slices.Concat(s.done...), nil
}
