// Package crew lets workers do the work of a node, piece by piece from a common store.
package crew

import (
	"iter"
	"slices"
	"sync"

	"quarry/api"
	"quarry/rows"
)

// Crew is how many workers there are, and how many rows each takes from the store at most.
type Crew struct {
	Workers, Morsel int
}

// Fits tells whether there may be such a crew.
func (c Crew) Fits() bool {
	return 1 <= c.Workers && c.Workers <= api.MaxWorkers && 1 <= c.Morsel && c.Morsel <= api.MaxMorsel
}

// Job is the work of a node.
type Job interface {
	// Size tells how many rows there are to go through.
	Size() int
	// Rows tells what comes of those from the one number up to the other. Where a row errs, it panics
	// with that row's place: a rows.Place.
	Rows(from, to int) iter.Seq[rows.Row]
}

// Do has a job done, and tells all that came of it, in the order of the rows it was made of. If rows err,
// it tells the least of their places instead; else that is nil.
func (c Crew) Do(job Job) ([]rows.Row, rows.Place) {
	work := newStore(job.Size(), c.Morsel)
	var all sync.WaitGroup
	for range c.Workers {
		all.Add(1)
		go func() {
			defer all.Done()
			help(work, job)
		}()
	}
	all.Wait()
	return work.outcome()
}

// help is what each worker does.
func help(work *store, job Job) {
	for p, ok := work.take(); ok; p, ok = work.take() {
		doPiece(work, job, p)
	}
}

// doPiece leaves the rest of a piece undone when a row errs: the rows behind it have greater places.
func doPiece(work *store, job Job, p piece) {
	defer func() {
		if caught := recover(); caught != nil {
			work.fail(caught.(rows.Place)) // anything else is no row's fault, and goes on as a panic
		}
	}()
	work.put(p, slices.Collect(job.Rows(p.from, p.to)))
}
