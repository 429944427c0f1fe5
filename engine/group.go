package engine

import (
	"iter"
	"slices"

	"quarry/api"
	"quarry/crew"
	"quarry/rows"
	"quarry/tally"
)

// group is some or all of the rows that have the same keys.
type group struct {
	place   rows.Place
	key     rows.Key
	tallies []tally.Tally // for each aggregate
}

// grouped has the rows gathered piece by piece, and then the groups of the pieces together. Only then a sum is
// whole, and can be asked whether it has room.
func grouped(node api.Node, child []rows.Row, hands crew.Crew) ([]rows.Row, rows.Place) {
	parts, _ := crew.Do(hands, gather{node: node, child: child})
	return crew.Do(hands, finish{node: node, groups: together(slices.Values(parts))})
}

// together makes one group of those that have the same keys. They are told in the order of their places, so
// the first one's is the least, and the groups are in the order of theirs.
func together(told iter.Seq[group]) []group {
	var list []group
	known := make(map[rows.Key]int)
	for each := range told {
		at, ok := known[each.key]
		if !ok {
			known[each.key] = len(list)
			list = append(list, each)
			continue
		}
		for i, t := range each.tallies {
			list[at].tallies[i] = list[at].tallies[i].And(t)
		}
	}
	return list
}

// gather makes groups of a piece's rows.
type gather struct {
	node  api.Node
	child []rows.Row
}

func (g gather) Size() int { return len(g.child) }

func (g gather) Piece(from, to int) iter.Seq[group] {
	return slices.Values(together(g.alone(from, to)))
}

// alone tells a group for each row.
func (g gather) alone(from, to int) iter.Seq[group] {
	return func(yield func(group) bool) {
		for _, row := range g.child[from:to] {
			if !yield(group{place: row.Place, key: row.Key(g.node.Keys), tallies: tallies(g.node.Aggs, row)}) {
				return
			}
		}
	}
}

func tallies(aggs []api.Agg, row rows.Row) []tally.Tally {
	list := make([]tally.Tally, len(aggs))
	for i, agg := range aggs {
		var v rows.Value // not null: without a column every row counts
		if agg.A != -1 {
			v = row.Values[agg.A]
		}
		list[i] = tally.Of(v)
	}
	return list
}

// finish makes a row of each group.
type finish struct {
	node   api.Node
	groups []group
}

func (f finish) Size() int { return len(f.groups) }

func (f finish) Piece(from, to int) iter.Seq[rows.Row] {
	return func(yield func(rows.Row) bool) {
		for _, each := range f.groups[from:to] {
			if !yield(rows.Row{Place: each.place, Values: f.values(each)}) {
				return
			}
		}
	}
}

// values panics with the group's place, if a sum of it has no room.
func (f finish) values(each group) []rows.Value {
	values := slices.Clone(each.key[:len(f.node.Keys)])
	for i, agg := range f.node.Aggs {
		v, fits := each.tallies[i].Value(agg.Kind)
		if !fits {
			panic(each.place)
		}
		values = append(values, v)
	}
	return values
}
