package crew_test

import (
	"iter"
	"math"
	"slices"
	"sync"
	"sync/atomic"
	"testing"
	"time"

	"quarry/api"
	"quarry/crew"
	"quarry/rows"
)

// job is one of so many rows, of which each piece is told by a function.
type job struct {
	size int
	tell func(from, to int, yield func(rows.Row) bool)
}

func (j job) Size() int { return j.size }

func (j job) Piece(from, to int) iter.Seq[rows.Row] {
	return func(yield func(rows.Row) bool) { j.tell(from, to, yield) }
}

func at(place ...int) rows.Row { return rows.Row{Place: place} }

// tellAll tells a row for each number.
func tellAll(from, to int, yield func(rows.Row) bool) {
	for i := from; i < to; i++ {
		if !yield(at(i)) {
			return
		}
	}
}

// expectCounting wants the rows from 0 up to n, each once.
func expectCounting(t *testing.T, what string, came []rows.Row, errs rows.Place, n int) {
	t.Helper()
	right := errs == nil && len(came) == n
	for i, row := range came {
		right = right && slices.Equal(row.Place, rows.Place{i})
	}
	if !right {
		t.Errorf("%s: %v, %v, want the rows up to %d", what, came, errs, n)
	}
}

// meet waits for a channel to be closed, but not for ever.
func meet(t *testing.T, what string, c chan struct{}) {
	select {
	case <-c:
	case <-time.After(20 * time.Second):
		t.Errorf("%s: nobody came", what)
	}
}

func TestP5Fits(t *testing.T) {
	for _, c := range []struct {
		workers, morsel int
		want            bool
	}{
		{1, 1, true}, {api.MaxWorkers, api.MaxMorsel, true}, {1, api.MaxMorsel, true}, {api.MaxWorkers, 1, true},
		{0, 1, false}, {1, 0, false}, {-1, 1, false}, {1, -1, false}, {api.MaxWorkers + 1, 1, false}, {1, api.MaxMorsel + 1, false},
		{math.MaxInt, 1, false}, {1, math.MaxInt, false}, {math.MinInt, 1, false}, {1, math.MinInt, false},
	} {
		if got := (crew.Crew{Workers: c.workers, Morsel: c.morsel}).Fits(); got != c.want {
			t.Errorf("P5: %+v: %v", c, got)
		}
	}
}

func TestP7EachRowOnce(t *testing.T) {
	for _, workers := range []int{1, 2, 5, api.MaxWorkers} {
		for morsel := 1; morsel <= api.MaxMorsel; morsel++ {
			for _, size := range []int{0, 1, 2, morsel - 1, morsel, morsel + 1, 3 * morsel, 3*morsel + 1, 300} {
				tell := func(from, to int, yield func(rows.Row) bool) {
					if n := to - from; n < 1 || n > morsel {
						t.Errorf("P7: a piece of %d rows, want at most %d", n, morsel)
					}
					tellAll(from, to, yield)
				}
				came, errs := crew.Do(crew.Crew{Workers: workers, Morsel: morsel}, job{size, tell})
				expectCounting(t, "P7: each row", came, errs, size)
			}
		}
	}
}

// backwards makes a job of n pieces of one row in which each waits for the one behind it.
func backwards(t *testing.T, n int, end func(i int, yield func(rows.Row) bool)) job {
	gone := make([]chan struct{}, n+1)
	for i := range gone {
		gone[i] = make(chan struct{})
	}
	close(gone[n])
	return job{n, func(from, to int, yield func(rows.Row) bool) {
		defer close(gone[from])
		meet(t, "P7: the piece behind", gone[from+1])
		end(from, yield)
	}}
}

func TestP7WhoeverIsReadyFirst(t *testing.T) {
	// Were fewer than all workers at it at once, the first pieces would wait in vain.
	last := backwards(t, api.MaxWorkers, func(i int, yield func(rows.Row) bool) { yield(at(i)) })
	came, errs := crew.Do(crew.Crew{Workers: api.MaxWorkers, Morsel: 1}, last)
	expectCounting(t, "P7: from the last piece to the first", came, errs, api.MaxWorkers)
}

func TestP7OneHelpsTheOthersOut(t *testing.T) {
	others := make(chan struct{})
	var ready atomic.Int32
	tell := func(from, to int, yield func(rows.Row) bool) {
		if from == 0 {
			meet(t, "P7: those that do the rest", others)
		}
		tellAll(from, to, yield)
		if ready.Add(1) == 19 {
			close(others)
		}
	}
	came, errs := crew.Do(crew.Crew{Workers: 2, Morsel: 2}, job{40, tell})
	expectCounting(t, "P7: while one is at its first piece", came, errs, 40)
}

func TestP5TheLeastPlaceWhoeverIsFirst(t *testing.T) {
	places := []rows.Place{{4, 7}, {4, 7, 0}, {4, 10}, {5}, {10}, {10, 0}}
	for least := range places {
		errs := func(i int, yield func(rows.Row) bool) {
			if i >= least {
				panic(places[i])
			}
			yield(at(i))
		}
		came, got := crew.Do(crew.Crew{Workers: len(places), Morsel: 1}, backwards(t, len(places), errs))
		if len(came) != 0 || !slices.Equal(got, places[least]) {
			t.Errorf("P5: from the last piece to the first: %v, %v, want %v", came, got, places[least])
		}
		tell := func(from, to int, yield func(rows.Row) bool) { errs(from, yield) }
		came, got = crew.Do(crew.Crew{Workers: 1, Morsel: 1}, job{len(places), tell})
		if len(came) != 0 || !slices.Equal(got, places[least]) {
			t.Errorf("P5: from the first piece to the last: %v, %v, want %v", came, got, places[least])
		}
	}
}

func TestP5AWorkerGoesOnBehindARowThatErrs(t *testing.T) {
	tell := func(from, to int, yield func(rows.Row) bool) { panic(rows.Place{100 - from}) }
	_, errs := crew.Do(crew.Crew{Workers: 1, Morsel: 3}, job{10, tell})
	if !slices.Equal(errs, rows.Place{91}) {
		t.Errorf("P5: %v, want the place of the last piece, which is the least here", errs)
	}
}

func TestP7NoPieceIsTakenTwice(t *testing.T) {
	for range 200 {
		var begun [300]atomic.Int32
		tell := func(from, to int, yield func(rows.Row) bool) { begun[from].Add(1) }
		crew.Do(crew.Crew{Workers: api.MaxWorkers, Morsel: 1}, job{len(begun), tell})
		for i := range begun {
			if n := begun[i].Load(); n != 1 {
				t.Fatalf("P7: the piece %d was taken %d times", i, n)
			}
		}
	}
}

func TestP5AllErrAtOnce(t *testing.T) {
	for range 300 {
		var begun atomic.Int32
		all := make(chan struct{})
		tell := func(from, to int, yield func(rows.Row) bool) {
			if begun.Add(1) == api.MaxWorkers {
				close(all)
			}
			meet(t, "P5: the others", all)
			panic(rows.Place{from})
		}
		if _, errs := crew.Do(crew.Crew{Workers: api.MaxWorkers, Morsel: 1}, job{api.MaxWorkers, tell}); !slices.Equal(errs, rows.Place{0}) {
			t.Fatalf("P5: %v, want the place 0", errs)
		}
	}
}

func TestP1AllHaveEnded(t *testing.T) {
	for range 50 {
		var lock sync.Mutex
		begun, ended := 0, 0
		count := func(n *int) {
			lock.Lock()
			defer lock.Unlock()
			*n++
		}
		tell := func(from, to int, yield func(rows.Row) bool) {
			count(&begun)
			defer count(&ended)
			if from%3 == 0 {
				panic(rows.Place{from})
			}
			tellAll(from, to, yield)
		}
		crew.Do(crew.Crew{Workers: 7, Morsel: 1}, job{40, tell})
		lock.Lock()
		if begun != ended || begun != 40 {
			t.Errorf("P1: %d pieces begun, %d ended, want 40", begun, ended)
		}
		lock.Unlock()
	}
}

// doubling tells each number of a piece so many times over.
type doubling struct{ size, times int }

func (d doubling) Size() int { return d.size }

func (d doubling) Piece(from, to int) iter.Seq[int] {
	return func(yield func(int) bool) {
		for i := from; i < to; i++ {
			for range d.times {
				if !yield(i) {
					return
				}
			}
		}
	}
}

func TestP5JustMaxOut(t *testing.T) {
	for _, by := range []crew.Crew{{Workers: 1, Morsel: 64}, {Workers: 4, Morsel: 1}, {Workers: 16, Morsel: 3}} {
		came, errs := crew.Do(by, doubling{20, 15})
		right := errs == nil && len(came) == api.MaxOut
		for i, n := range came {
			right = right && n == i/15
		}
		if !right {
			t.Errorf("P5: by %v: %v, %v, want all of MaxOut", by, came, errs)
		}
	}
}

func TestP5MoreThanMaxOut(t *testing.T) {
	for _, by := range []crew.Crew{{Workers: 1, Morsel: 64}, {Workers: 1, Morsel: 1}, {Workers: 4, Morsel: 1}, {Workers: 16, Morsel: 3}} {
		for _, many := range []doubling{{301, 1}, {43, 7}, {7, 43}, {1, 301}, {40, 40}, {300, 300}} {
			if came, errs := crew.Do(by, many); errs != nil || len(came) <= api.MaxOut {
				t.Errorf("P5: by %v, %v: %d came, %v, want more than MaxOut", by, many, len(came), errs)
			}
		}
	}
}

func TestP5WhoHasEnoughLeaves(t *testing.T) {
	told, pieces := 0, 0
	endless := job{1000, func(from, to int, yield func(rows.Row) bool) {
		pieces++
		for yield(at(from)) {
			told++
		}
	}}
	crew.Do(crew.Crew{Workers: 1, Morsel: 2}, endless)
	if pieces != 1 || told != api.MaxOut {
		t.Errorf("P5: %d pieces, and %d told ahead of the last one, want 1 and MaxOut", pieces, told)
	}
	var begun atomic.Int32
	some := job{1000, func(from, to int, yield func(rows.Row) bool) {
		begun.Add(1)
		for range 101 {
			yield(at(from))
		}
	}}
	crew.Do(crew.Crew{Workers: 4, Morsel: 1}, some)
	if n := begun.Load(); n < 3 || n > 6 {
		t.Errorf("P5: %d pieces of 101 were begun by four workers, want 3, and those that were under way", n)
	}
}
