package engine

import (
	"iter"

	"quarry/api"
	"quarry/reckon"
	"quarry/rows"
)

type scan struct {
	table api.Table
}

func (s scan) Size() int { return len(s.table.Cols[0].Nulls) }

func (s scan) Piece(from, to int) iter.Seq[rows.Row] {
	return func(yield func(rows.Row) bool) {
		for i := from; i < to; i++ {
			if !yield(rows.Row{Place: rows.Place{i}, Values: s.values(i)}) {
				return
			}
		}
	}
}

func (s scan) values(i int) []rows.Value {
	values := make([]rows.Value, len(s.table.Cols))
	for k, column := range s.table.Cols {
		values[k] = entry(column, i)
	}
	return values
}

func entry(column api.Column, i int) rows.Value {
	switch {
	case column.Nulls[i]:
		return rows.Null()
	case column.Kind == api.Str:
		return rows.Value{Text: column.Strs[i]}
	}
	return rows.Value{Num: column.Ints[i], Scale: column.Scale}
}

type filter struct {
	expr  []api.Term
	child []rows.Row
}

func (f filter) Size() int { return len(f.child) }

func (f filter) Piece(from, to int) iter.Seq[rows.Row] {
	return func(yield func(rows.Row) bool) {
		for _, row := range f.child[from:to] {
			if reckon.Expr(f.expr, row).True() && !yield(row) {
				return
			}
		}
	}
}

type project struct {
	exprs [][]api.Term
	child []rows.Row
}

func (p project) Size() int { return len(p.child) }

func (p project) Piece(from, to int) iter.Seq[rows.Row] {
	return func(yield func(rows.Row) bool) {
		for _, row := range p.child[from:to] {
			if !yield(rows.Row{Place: row.Place, Values: p.values(row)}) {
				return
			}
		}
	}
}

func (p project) values(row rows.Row) []rows.Value {
	values := make([]rows.Value, len(p.exprs))
	for i, expr := range p.exprs {
		values[i] = reckon.Expr(expr, row)
	}
	return values
}
