package engine

import (
	"iter"
	"slices"

	"quarry/api"
	"quarry/rows"
)

// join goes through the rows of its one child, and finds those of the other one by their keys.
type join struct {
	keys   []int
	one    []rows.Row
	others map[rows.Key][]rows.Row // in the order of their places
}

func newJoin(node api.Node, one, other []rows.Row) join {
	others := make(map[rows.Key][]rows.Row)
	for _, row := range other {
		key := row.Key(node.Others)
		others[key] = append(others[key], row)
	}
	return join{keys: node.Keys, one: one, others: others}
}

func (j join) Size() int { return len(j.one) }

func (j join) Piece(from, to int) iter.Seq[rows.Row] {
	return func(yield func(rows.Row) bool) {
		for _, row := range j.one[from:to] {
			for _, match := range j.matches(row) {
				if !yield(pair(row, match)) {
					return
				}
			}
		}
	}
}

// matches leaves out a row with a null in its key, for that is equal to nothing, not even to a null.
func (j join) matches(row rows.Row) []rows.Row {
	key := row.Key(j.keys)
	if key.HasNull() {
		return nil
	}
	return j.others[key]
}

func pair(one, other rows.Row) rows.Row {
	return rows.Row{Place: slices.Concat(one.Place, other.Place), Values: slices.Concat(one.Values, other.Values)}
}
