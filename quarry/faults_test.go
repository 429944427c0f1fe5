package quarry_test

import (
	"math"
	"slices"
	"testing"

	"quarry/api"
)

// above is an expression over the first column at which the rows err that have more than n there.
func above(n int) []api.Term { return expr(col(0), num(math.MaxInt64-int64(n)), op(api.Add)) }

// always is an expression over the first column at which every row errs that is not null there (nor below 0).
func always() []api.Term { return slices.Concat(above(0), expr(num(1), op(api.Add))) }

// asks makes a Bool of an expression of an Int: whether it is above 0.
func asks(terms []api.Term) []api.Term { return slices.Concat(expr(num(0)), terms, expr(op(api.Lt))) }

// falling is a table whose rows have from MaxRows-1 down to 0.
func falling() []api.Table {
	column := counting(api.MaxRows)
	slices.Reverse(column.Ints)
	return tables(table(column))
}

func rising() []api.Table { return tables(table(counting(api.MaxRows))) }

func TestP5TheLeastPlace(t *testing.T) {
	for range 20 {
		expectFault(t, "P5: one row, the last", rising(), plan(scan(0), project(0, above(38))), api.ErrOverflow, 1, 39)
		expectFault(t, "P5: many rows", rising(), plan(scan(0), project(0, above(16))), api.ErrOverflow, 1, 17)
		expectFault(t, "P5: all rows", rising(), plan(scan(0), project(0, always())), api.ErrOverflow, 1, 0)
		expectFault(t, "P5: of a Filter", rising(), plan(scan(0), filter(0, asks(above(16))...)), api.ErrOverflow, 1, 17)
		expectFault(t, "P5: the least place has not the least number", falling(), plan(scan(0), project(0, above(9))), api.ErrOverflow, 1, 0)
		expectFault(t, "P5: a later expression errs first", rising(), plan(scan(0), project(0, above(30), above(20), above(25))), api.ErrOverflow, 1, 21)
		expectFault(t, "P5: the last expression errs first", rising(), plan(scan(0), project(0, expr(col(0)), above(30), above(5))), api.ErrOverflow, 1, 6)
	}
}

func TestP5TheFirstNode(t *testing.T) {
	for range 20 {
		expectFault(t, "P5: the first one's place is greater", rising(), plan(scan(0), filter(0, asks(above(35))...), project(1, above(3))), api.ErrOverflow, 1, 36)
		expectFault(t, "P5: the second one alone", rising(), plan(scan(0), filter(0, asks(above(39))...), project(1, above(3))), api.ErrOverflow, 2, 4)
		expectFault(t, "P5: the last one alone", rising(), plan(scan(0), filter(0, yes()...), project(1, expr(col(0))), filter(2, yes()...), project(3, above(8))), api.ErrOverflow, 4, 9)
		expectFault(t, "P5: another table's Scan, which is no fault", append(rising(), falling()...), plan(scan(1), project(0, above(8))), api.ErrOverflow, 1, 0)
	}
}

func TestP5RowsThatAreNotThere(t *testing.T) {
	small := filter(0, col(0), num(10), op(api.Lt))
	great := filter(0, num(10), col(0), op(api.Lt))
	expectFault(t, "P5: the place is that of the table's row", rising(), plan(scan(0), great, project(1, above(20))), api.ErrOverflow, 2, 21)
	expectFault(t, "P5: the first that is left", rising(), plan(scan(0), great, project(1, above(3))), api.ErrOverflow, 2, 11)
	expectFault(t, "P5: behind two Filters and a Project", falling(), plan(scan(0), small, project(1, expr(col(0), num(2), op(api.Mul))), filter(2, col(0), num(9), op(api.Lt)), project(3, above(3))), api.ErrOverflow, 4, 35)
	expectRows(t, "P5: rows that were left out do not err", rising(), plan(scan(0), small, project(1, above(9))), numbered(api.Int, 0, math.MaxInt64-9, math.MaxInt64-8, math.MaxInt64-7, math.MaxInt64-6, math.MaxInt64-5, math.MaxInt64-4, math.MaxInt64-3, math.MaxInt64-2, math.MaxInt64-1, math.MaxInt64))
	expectRows(t, "P5: of no rows none errs", rising(), plan(scan(0), filter(0, num(1), num(2), op(api.Eq)), project(1, always()), filter(2, asks(always())...)), wholes())
	nulls := tables(table(wholes(nil, nil, 7, nil, 7)))
	expectFault(t, "P5: nulls do not err", nulls, plan(scan(0), project(0, always())), api.ErrOverflow, 1, 2)
	expectRows(t, "P5: nulls alone", tables(table(wholes(nil, nil))), plan(scan(0), project(0, always())), wholes(nil, nil))
}

func TestP5EveryTermIsDone(t *testing.T) {
	bad := asks(above(20))
	no, null := expr(num(1), num(2), op(api.Eq)), expr(col(1), op(api.IsNull), col(1), num(1), op(api.Eq), op(api.And))
	given := tables(table(counting(api.MaxRows), api.Column{Kind: api.Int, Ints: make([]int64, api.MaxRows), Nulls: slices.Repeat([]bool{true}, api.MaxRows)}))
	for what, terms := range map[string][]api.Term{
		"false And":     slices.Concat(no, bad, expr(op(api.And))),
		"And false":     slices.Concat(bad, no, expr(op(api.And))),
		"true Or":       slices.Concat(yes(), bad, expr(op(api.Or))),
		"Or true":       slices.Concat(bad, yes(), expr(op(api.Or))),
		"null And":      slices.Concat(null, bad, expr(op(api.And))),
		"IsNull":        slices.Concat(above(20), expr(op(api.IsNull))),
		"back again":    slices.Concat(above(20), expr(num(40), op(api.Sub), op(api.IsNull), op(api.Not))),
		"times 0":       slices.Concat(above(20), expr(num(0), op(api.Mul), num(0), op(api.Eq))),
		"Eq of a null":  slices.Concat(above(20), expr(col(1), op(api.Eq))),
		"Add of a null": slices.Concat(above(20), expr(col(1), op(api.Add), op(api.IsNull))),
		"Lt of a null":  slices.Concat(expr(col(1)), above(20), expr(op(api.Lt))),
	} {
		expectFault(t, "P5: "+what, given, plan(scan(0), filter(0, terms...)), api.ErrOverflow, 1, 21)
	}
}

func TestP5EachTermThatErrs(t *testing.T) {
	for what, terms := range map[string][]api.Term{
		"Add":           expr(col(0), num(math.MaxInt64-6), op(api.Add)),
		"Add below":     expr(num(math.MinInt64+6), num(0), col(0), op(api.Sub), op(api.Add)),
		"Sub":           expr(num(math.MinInt64+6), col(0), op(api.Sub)),
		"Sub above":     expr(num(math.MaxInt64-6), num(0), col(0), op(api.Sub), op(api.Sub)),
		"Mul":           expr(col(0), num(math.MaxInt64/6), op(api.Mul)),
		"Mul below":     expr(num(math.MinInt64/6), col(0), op(api.Mul)),
		"Rescale":       expr(col(0), num(math.MaxInt64/60), op(api.Mul), rescale(1)),
		"Rescale below": expr(col(0), num(math.MinInt64/6000000), op(api.Mul), rescale(6)),
		"of a Dec":      expr(col(0), rescale(2), fix(math.MaxInt64-600, 2), op(api.Add)),
	} {
		expectFault(t, "P5: "+what, rising(), plan(scan(0), project(0, terms)), api.ErrOverflow, 1, 7)
	}
}
