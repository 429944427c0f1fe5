// Package typing tells which types there are, and what expressions and aggregates make of them.
package typing

import "quarry/api"

// Type is a kind and a scale. The scale is 0 unless the kind is Dec, so that == tells whether two are the same.
type Type struct {
	Kind, Scale int
}

// Storable tells whether a column of a table may be of the type: a Bool is only asked, never kept.
func (t Type) Storable() bool {
	switch t.Kind {
	case api.Int, api.Str:
		return t.Scale == 0
	case api.Dec:
		return scaleFits(t.Scale)
	}
	return false
}

// Number tells whether values of the type can be reckoned with.
func (t Type) Number() bool {
	return t.Kind == api.Int || t.Kind == api.Dec
}

// Column tells the type of the column at a place, and whether there is such a column.
func Column(cols []Type, place int) (Type, bool) {
	if place < 0 || place >= len(cols) {
		return Type{}, false
	}
	return cols[place], true
}

// Aggregate tells the type of an aggregate over the columns, and whether it has one.
func Aggregate(agg api.Agg, cols []Type) (Type, bool) {
	if agg.Kind == api.Count && agg.A == -1 {
		return whole(), true
	}
	column, ok := Column(cols, agg.A)
	switch agg.Kind {
	case api.Count:
		return whole(), ok
	case api.Sum:
		return column, ok && column.Number()
	case api.Least, api.Greatest:
		return column, ok
	}
	return Type{}, false
}

func whole() Type { return Type{Kind: api.Int} }

func text() Type { return Type{Kind: api.Str} }

func truth() Type { return Type{Kind: api.Bool} }

func decimal(scale int) (Type, bool) {
	return Type{Kind: api.Dec, Scale: scale}, scaleFits(scale)
}

func scaleFits(scale int) bool {
	return 0 <= scale && scale <= api.MaxScale
}
