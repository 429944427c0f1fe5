// Package crew lets workers do the work of a node, piece by piece from a common store.
package crew

import (
	"iter"
	"sync"

	"quarry/api"
	"quarry/rows"
)

// Crew is how many workers there are, and how many rows each takes from the store at most.
type Crew struct {
	Workers, Morsel int
}

// Fits tells whether there may be such a crew.
func (c Crew) Fits() bool {
	return 1 <= c.Workers && c.Workers <= api.MaxWorkers && 1 <= c.Morsel && c.Morsel <= api.MaxMorsel
}

// Job is work over the rows of a node. What comes of it is rows, or what rows are made of later on. A job of
// which more than MaxOut may come has no rows that err: the crew leaves it when it has seen so many.
type Job[T any] interface {
	// Size tells how many rows there are to go through.
	Size() int
	// Piece tells what comes of those from the one number up to the other. Where a row errs, it panics
	// with that row's place: a rows.Place.
	Piece(from, to int) iter.Seq[T]
}

// Do has a job done, and tells all that came of it, in the order of the rows it was made of; or if that is more
// than MaxOut, some of it, also more than MaxOut. If rows err, it tells the least of their places instead;
// else that is nil.
func Do[T any](c Crew, job Job[T]) ([]T, rows.Place) {
	work := newStore[T](job.Size(), c.Morsel)
	var all sync.WaitGroup
	for range c.Workers {
		all.Add(1)
		go func() {
			defer all.Done()
			help(work, job)
		}()
	}
	all.Wait()
	return work.outcome()
}

// help is what each worker does.
func help[T any](work *store[T], job Job[T]) {
	for p, ok := work.take(); ok; p, ok = work.take() {
		doPiece(work, job, p)
	}
}

// doPiece leaves the rest of a piece undone when a row errs: the rows behind it have greater places.
func doPiece[T any](work *store[T], job Job[T], p piece) {
	defer func() {
		if caught := recover(); caught != nil {
			work.fail(caught.(rows.Place)) // anything else is no row's fault, and goes on as a panic
		}
	}()
	work.put(p, enough(job.Piece(p.from, p.to)))
}

// enough is all that is told, but it leaves once there is more than any node may have.
func enough[T any](told iter.Seq[T]) []T {
	var list []T
	for each := range told {
		list = append(list, each)
		if len(list) > api.MaxOut {
			break
		}
	}
	return list
}
