// Package tally works aggregates out, part by part: it does not matter how the values are parted.
package tally

import (
	"quarry/api"
	"quarry/rows"
)

// Tally is what is known of some values of a column: all that any kind of aggregate needs.
type Tally struct {
	held            int64 // how many of them are not null
	total           wide
	least, greatest rows.Value // of no meaning as long as none is held
}

// Of is the tally of one value.
func Of(v rows.Value) Tally {
	if v.Null {
		return Tally{}
	}
	return Tally{held: 1, total: widened(v.Num), least: v, greatest: v}
}

// And is the tally of the values of two tallies together.
func (t Tally) And(other Tally) Tally {
	switch {
	case t.held == 0:
		return other
	case other.held == 0:
		return t
	}
	both := Tally{held: t.held + other.held, total: t.total.plus(other.total), least: t.least, greatest: t.greatest}
	if rows.Compare(other.least, t.least) < 0 {
		both.least = other.least
	}
	if rows.Compare(other.greatest, t.greatest) > 0 {
		both.greatest = other.greatest
	}
	return both
}

// Value is that of an aggregate of a kind over all the values, and tells whether it has room in 64 bits.
func (t Tally) Value(kind int) (rows.Value, bool) {
	switch {
	case kind == api.Count:
		return rows.Value{Num: t.held}, true
	case t.held == 0:
		return rows.Null(), true
	case kind == api.Least:
		return t.least, true
	case kind == api.Greatest:
		return t.greatest, true
	}
	n, fits := t.total.narrowed()
	return rows.Value{Num: n, Scale: t.least.Scale}, fits
}
