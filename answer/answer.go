// Package answer makes what is handed out: columns and tables that share no memory with anything else.
package answer

import (
	"iter"
	"strings"

	"quarry/api"
	"quarry/rows"
	"quarry/typing"
)

// Columns are columns of the types, without entries.
func Columns(types []typing.Type) []api.Column {
	columns := make([]api.Column, len(types))
	for i, t := range types {
		columns[i] = api.Column{Kind: t.Kind, Scale: t.Scale}
	}
	return columns
}

// Table has columns of the types, and as its entries the rows that are told.
func Table(types []typing.Type, told iter.Seq[rows.Row]) api.Table {
	columns := Columns(types)
	for row := range told {
		for i, v := range row.Values {
			columns[i] = with(columns[i], v)
		}
	}
	return api.Table{Cols: columns}
}

// with is a column with one more entry. A text is copied too, for its bytes may be those of a table handed in.
func with(column api.Column, v rows.Value) api.Column {
	column.Nulls = append(column.Nulls, v.Null)
	if column.Kind == api.Str {
		column.Strs = append(column.Strs, strings.Clone(v.Text))
	} else {
		column.Ints = append(column.Ints, v.Num)
	}
	return column
}
