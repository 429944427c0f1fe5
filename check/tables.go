package check

import (
	"quarry/api"
	"quarry/typing"
)

// wrongTable tells the place of the first table that is not right, and whether there is one.
func wrongTable(tables []api.Table) (int, bool) {
	for i, table := range tables {
		if i >= api.MaxTables || !rightTable(table) {
			return i, true
		}
	}
	return 0, false
}

func rightTable(table api.Table) bool {
	if len(table.Cols) < 1 || len(table.Cols) > api.MaxCols {
		return false
	}
	rows := len(table.Cols[0].Nulls)
	if rows > api.MaxRows {
		return false
	}
	for _, column := range table.Cols {
		if !rightColumn(column, rows) {
			return false
		}
	}
	return true
}

func rightColumn(column api.Column, rows int) bool {
	if !columnType(column).Storable() {
		return false
	}
	ints, strs := rows, 0
	if column.Kind == api.Str {
		ints, strs = 0, rows
	}
	if len(column.Nulls) != rows || len(column.Ints) != ints || len(column.Strs) != strs {
		return false
	}
	return textsFit(column.Strs)
}

// textsFit looks at every text, for the document bounds its length even where the entry is null.
func textsFit(texts []string) bool {
	for _, text := range texts {
		if len(text) > api.MaxText {
			return false
		}
	}
	return true
}

func columnType(column api.Column) typing.Type {
	return typing.Type{Kind: column.Kind, Scale: column.Scale}
}

func tableTypes(table api.Table) []typing.Type {
	types := make([]typing.Type, len(table.Cols))
	for i, column := range table.Cols {
		types[i] = columnType(column)
	}
	return types
}
