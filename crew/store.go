package crew

import (
	"slices"
	"sync"

	"quarry/rows"
)

// piece is a morsel: the rows from the one number up to the other.
type piece struct {
	number   int
	from, to int
}

// store has what is still to be done of a job, and what came of it so far. All workers share it, so
// everything in it is read and written under its lock.
type store struct {
	lock   sync.Mutex
	size   int
	morsel int
	taken  int          // how many pieces have been
	done   [][]rows.Row // what came of each piece, in the order of pieces, whoever was ready first
	least  rows.Place   // of the rows that err; nil as long as there is none
}

func newStore(size, morsel int) *store {
	pieces := (size + morsel - 1) / morsel
	return &store{size: size, morsel: morsel, done: make([][]rows.Row, pieces)}
}

// take hands out a piece that nobody has taken yet, if there is one.
func (s *store) take() (piece, bool) {
	s.lock.Lock()
	defer s.lock.Unlock()
	if s.taken == len(s.done) {
		return piece{}, false
	}
	from := s.taken * s.morsel
	p := piece{number: s.taken, from: from, to: min(from+s.morsel, s.size)}
	s.taken++
	return p, true
}

func (s *store) put(p piece, came []rows.Row) {
	s.lock.Lock()
	defer s.lock.Unlock()
	s.done[p.number] = came
}

func (s *store) fail(place rows.Place) {
	s.lock.Lock()
	defer s.lock.Unlock()
	if s.least == nil || slices.Compare(place, s.least) < 0 {
		s.least = place
	}
}

func (s *store) outcome() ([]rows.Row, rows.Place) {
	s.lock.Lock()
	defer s.lock.Unlock()
	if s.least != nil {
		return nil, s.least
	}
	return slices.Concat(s.done...), nil
}
