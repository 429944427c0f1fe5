package quarry_test

import (
	"math"
	"slices"
	"testing"

	"quarry/api"
	"quarry/quarry"
)

// team is a number of workers and a size of morsels.
type team struct{ workers, morsel int }

// teams are some of each end, and between.
func teams() []team {
	return []team{{1, api.MaxMorsel}, {1, 1}, {2, 1}, {3, 2}, {4, 7}, {16, 1}, {16, 3}, {api.MaxWorkers, api.MaxMorsel}}
}

// numbered is a column with entries; nil stands for a null.
func numbered(kind, scale int, entries ...any) api.Column {
	column := api.Column{Kind: kind, Scale: scale}
	for _, entry := range entries {
		n, _ := entry.(int)
		column.Ints = append(column.Ints, int64(n))
		column.Nulls = append(column.Nulls, entry == nil)
	}
	return column
}

func wholes(entries ...any) api.Column { return numbered(api.Int, 0, entries...) }

func decimals(scale int, entries ...any) api.Column { return numbered(api.Dec, scale, entries...) }

func words(entries ...any) api.Column {
	column := api.Column{Kind: api.Str}
	for _, entry := range entries {
		s, _ := entry.(string)
		column.Strs = append(column.Strs, s)
		column.Nulls = append(column.Nulls, entry == nil)
	}
	return column
}

// counting is a column of an Int from 0 on, without nulls.
func counting(n int) api.Column {
	column := numbers(api.Int, 0, n)
	for i := range n {
		column.Ints[i] = int64(i)
	}
	return column
}

// same tells whether two tables are, a list without entries being the same as nil.
func same(one, other api.Table) bool {
	return slices.EqualFunc(one.Cols, other.Cols, func(a, b api.Column) bool {
		return a.Kind == b.Kind && a.Scale == b.Scale && slices.Equal(a.Ints, b.Ints) && slices.Equal(a.Strs, b.Strs) && slices.Equal(a.Nulls, b.Nulls)
	})
}

func noFault(fault api.Fault) bool { return fault.Node == 0 && len(fault.Rows) == 0 }

// expectRows holds what Run answers by each of the teams against a table.
func expectRows(t *testing.T, what string, given []api.Table, nodes []api.Node, want ...api.Column) {
	t.Helper()
	for _, by := range teams() {
		got, errno, fault := quarry.Run(given, nodes, by.workers, by.morsel)
		if errno != api.OK || !noFault(fault) || !same(got, table(want...)) {
			t.Errorf("%s: Run by %v = %+v, %d, %+v, want %+v", what, by, got, errno, fault, want)
		}
	}
}

// expectFault holds what Run answers by each of the teams against an error and where it is.
func expectFault(t *testing.T, what string, given []api.Table, nodes []api.Node, want api.Errno, node int, place ...int) {
	t.Helper()
	for _, by := range teams() {
		got, errno, fault := quarry.Run(given, nodes, by.workers, by.morsel)
		if errno != want || len(got.Cols) != 0 || fault.Node != node || !slices.Equal(fault.Rows, place) {
			t.Errorf("%s: Run by %v = %+v, %d, %+v, want %d at %d %v", what, by, got, errno, fault, want, node, place)
		}
	}
}

// bounded tells whether a number of workers or a size of morsels may be.
func bounded(n, most int) bool { return 1 <= n && n <= most }

func TestP5Arguments(t *testing.T) {
	all := append(edges(), -1, 0, 1, 2, 15, 16, 17, 32, 63, 64, 65, 128)
	for _, workers := range all {
		for _, morsel := range all {
			got, errno, fault := quarry.Run(tables(sample()), plan(scan(0)), workers, morsel)
			if bounded(workers, api.MaxWorkers) && bounded(morsel, api.MaxMorsel) {
				if errno != api.OK || !noFault(fault) || len(got.Cols) != 3 {
					t.Errorf("P5: Run by %d, %d = %+v, %d, %+v", workers, morsel, got, errno, fault)
				}
			} else if errno != api.ErrArg || !noFault(fault) || len(got.Cols) != 0 {
				t.Errorf("P5: Run by %d, %d = %+v, %d, %+v, want ErrArg", workers, morsel, got, errno, fault)
			}
		}
	}
}

// wrongRun is a call of Run that is wrong, whoever does it.
type wrongRun struct {
	what  string
	given []api.Table
	nodes []api.Node
	want  api.Errno
	node  int
	place []int
}

func wrongRuns() []wrongRun {
	good := tables(sample())
	tooMuch := project(0, tooMuch())
	return []wrongRun{
		{"nothing at all", nil, nil, api.ErrPlan, 0, nil},
		{"a table without columns", tables(api.Table{}), plan(scan(0)), api.ErrTable, 0, nil},
		{"the second table", tables(sample(), table(numbers(api.Int, 1, 2))), plan(scan(0)), api.ErrTable, 1, nil},
		{"too many tables", slices.Repeat(good, api.MaxTables+1), plan(scan(0)), api.ErrTable, api.MaxTables, nil},
		{"too many rows", tables(table(counting(api.MaxRows + 1))), plan(scan(0)), api.ErrTable, 0, nil},
		{"a table and a plan", tables(sample(), api.Table{}), plan(scan(9)), api.ErrTable, 1, nil},
		{"a table that is not there", good, plan(scan(1)), api.ErrPlan, 0, nil},
		{"a loose node", good, plan(scan(0), scan(0), filter(1, yes()...)), api.ErrPlan, 0, nil},
		{"no such child", good, plan(scan(0), filter(0, yes()...), filter(2, yes()...)), api.ErrPlan, 2, nil},
		{"too many nodes", good, chain(api.MaxNodes + 1), api.ErrPlan, api.MaxNodes, nil},
		{"a Filter that is no Bool", good, plan(scan(0), filter(0, col(0))), api.ErrType, 1, nil},
		{"a Project that is one", good, plan(scan(0), filter(0, yes()...), project(1, yes())), api.ErrType, 2, nil},
		{"a row that errs", good, plan(scan(0), tooMuch), api.ErrOverflow, 1, ints(0)},
		{"a row that errs, and types behind it", good, plan(scan(0), tooMuch, filter(1, col(0))), api.ErrType, 2, nil},
		{"a row that errs, and a plan behind it", good, plan(scan(0), tooMuch, filter(0, yes()...)), api.ErrPlan, 2, nil},
		{"too many rows of a Join", limitTables(), byFirst(0, 1), api.ErrLimit, 2, nil},
		{"too many rows, and types behind them", limitTables(), append(byFirst(0, 1), filter(2, col(0))), api.ErrType, 3, nil},
		{"too many rows, and a plan behind them", limitTables(), append(byFirst(0, 1), scan(0)), api.ErrPlan, 2, nil},
		{"too many rows, and a table not scanned", append(limitTables()[:3], api.Table{}), byFirst(0, 1), api.ErrTable, 3, nil},
		{"a Join of one child", good, plan(scan(0), join(0, 0, ints(0), ints(0))), api.ErrPlan, 1, nil},
		{"a Join of types that are not the same", good, plan(scan(0), scan(0), join(0, 1, ints(0), ints(1))), api.ErrType, 2, nil},
		{"a sum without room", pairs(3), plan(scan(0), group(0, ints(0), agg(api.Sum, 1))), api.ErrOverflow, 1, ints(3)},
		{"a sum without room, and types behind it", pairs(3), plan(scan(0), group(0, ints(0), agg(api.Sum, 1)), group(1, nil)), api.ErrType, 2, nil},
		{"a Sum of texts", good, plan(scan(0), group(0, nil, agg(api.Sum, 2))), api.ErrType, 1, nil},
		{"too many keys", good, plan(scan(0), group(0, ints(0, 0, 0, 0, 0))), api.ErrPlan, 1, nil},
		{"a row that errs, and a table not scanned", tables(sample(), api.Table{}), plan(scan(0), tooMuch), api.ErrTable, 1, nil},
	}
}

func TestP5Errors(t *testing.T) {
	for _, c := range wrongRuns() {
		expectFault(t, "P5: "+c.what, c.given, c.nodes, c.want, c.node, c.place...)
	}
}

func TestP5ArgumentsGoFirst(t *testing.T) {
	for _, c := range wrongRuns() {
		for _, by := range []team{{0, 1}, {1, 0}, {17, 1}, {1, 65}, {-1, -1}, {math.MinInt, math.MaxInt}, {math.MaxInt, math.MinInt}} {
			got, errno, fault := quarry.Run(c.given, c.nodes, by.workers, by.morsel)
			if errno != api.ErrArg || !noFault(fault) || len(got.Cols) != 0 {
				t.Errorf("P5: %s: Run by %v = %+v, %d, %+v, want ErrArg", c.what, by, got, errno, fault)
			}
		}
	}
}

func TestP6Examples(t *testing.T) {
	given := tables(sample())
	expectRows(t, "P6: a Scan", given, plan(scan(0)), wholes(1, 2, nil, 4), decimals(2, 150, -25, 300, nil), words("x", "y", "x", "z"))
	expectRows(t, "P6: a Filter", given, plan(scan(0), filter(0, col(0), num(1), op(api.Eq), op(api.Not))), wholes(2, 4), decimals(2, -25, nil), words("y", "z"))
	expectRows(t, "P6: a Filter of nulls", given, plan(scan(0), filter(0, col(0), op(api.IsNull))), wholes(nil), decimals(2, 300), words("x"))
	expectRows(t, "P6: a Project", given, plan(scan(0), project(0, expr(col(1), fix(1, 2), op(api.Add)), expr(col(0), col(1), op(api.Mul)), expr(col(1), rescale(1)))), decimals(2, 151, -24, 301, nil), decimals(2, 150, -50, nil, nil), decimals(1, 15, -2, 30, nil))
	expectFault(t, "P5: a product", given, plan(scan(0), project(0, expr(col(0), num(math.MaxInt64), op(api.Mul)))), api.ErrOverflow, 1, 1)
	expectFault(t, "P5: a sum", given, plan(scan(0), project(0, expr(col(0), num(math.MaxInt64-1), op(api.Add)))), api.ErrOverflow, 1, 1)
}

func TestP6Nodes(t *testing.T) {
	given := tables(table(words("b", nil, "a", "b"), wholes(3, 1, nil, 2)), sample())
	expectRows(t, "P6: a Scan of the first", given, plan(scan(0)), words("b", nil, "a", "b"), wholes(3, 1, nil, 2))
	expectRows(t, "P6: a Scan of the second", given, plan(scan(1)), wholes(1, 2, nil, 4), decimals(2, 150, -25, 300, nil), words("x", "y", "x", "z"))
	expectRows(t, "P6: all of the rows", given, plan(scan(0), filter(0, yes()...)), words("b", nil, "a", "b"), wholes(3, 1, nil, 2))
	expectRows(t, "P6: none of the rows", given, plan(scan(0), filter(0, num(1), num(2), op(api.Eq))), words(), wholes())
	expectRows(t, "P6: a null is not true", given, plan(scan(0), filter(0, col(0), word("b"), op(api.Eq))), words("b", "b"), wholes(3, 2))
	expectRows(t, "P6: no null is true either way", given, plan(scan(0), filter(0, col(0), word("b"), op(api.Eq), op(api.Not))), words("a"), wholes(nil))
	expectRows(t, "P6: a Filter of a Filter", given, plan(scan(0), filter(0, col(0), op(api.IsNull), op(api.Not)), filter(1, col(1), op(api.IsNull), op(api.Not))), words("b", "b"), wholes(3, 2))
	expectRows(t, "P6: columns in another order", given, plan(scan(0), project(0, expr(col(1)), expr(col(0)), expr(col(1)))), wholes(3, 1, nil, 2), words("b", nil, "a", "b"), wholes(3, 1, nil, 2))
	expectRows(t, "P6: the same at each row", given, plan(scan(0), project(0, expr(num(-7)), expr(fix(7, 6)), expr(word("w")))), wholes(-7, -7, -7, -7), decimals(6, 7, 7, 7, 7), words("w", "w", "w", "w"))
	expectRows(t, "P6: a Filter of a Project", given, plan(scan(0), project(0, expr(col(1), num(10), op(api.Mul))), filter(1, num(15), col(0), op(api.Lt))), wholes(30, 20))
	expectRows(t, "P6: a Project of a Project", given, plan(scan(0), project(0, expr(col(1), num(1), op(api.Add))), project(1, expr(col(0), col(0), op(api.Mul)))), wholes(16, 4, nil, 9))
	expectRows(t, "P6: a Project of a Filter", given, plan(scan(1), filter(0, col(2), word("x"), op(api.Eq)), project(1, expr(col(1)))), decimals(2, 150, 300))
}

func TestP6TablesWithoutRows(t *testing.T) {
	empty := table(wholes(), decimals(3), words())
	nodes := plan(scan(0), filter(0, yes()...), project(1, expr(col(2)), expr(col(0), col(1), op(api.Mul)), expr(num(math.MaxInt64), num(1), op(api.Add))))
	for _, given := range [][]api.Table{tables(empty), tables(table(api.Column{Kind: api.Int, Ints: []int64{}, Strs: []string{}, Nulls: []bool{}}, api.Column{Kind: api.Dec, Scale: 3}, api.Column{Kind: api.Str, Ints: []int64{}}))} {
		expectRows(t, "P6: a Scan without rows", given, nodes[:1], empty.Cols...)
		expectRows(t, "P6: a Filter without rows", given, nodes[:2], empty.Cols...)
		expectRows(t, "P6: a Project without rows, of which none errs", given, nodes, words(), decimals(3), wholes())
	}
}

func TestP6WhatStandsAtANull(t *testing.T) {
	column := api.Column{Kind: api.Str, Strs: []string{letters(16), "y"}, Nulls: []bool{true, false}}
	far := api.Column{Kind: api.Int, Ints: []int64{math.MaxInt64, 1}, Nulls: []bool{true, false}}
	given := tables(table(column, far))
	expectRows(t, "P6: nulls of a Scan", given, plan(scan(0)), words(nil, "y"), wholes(nil, 1))
	expectRows(t, "P6: nulls of a Filter", given, plan(scan(0), filter(0, col(0), op(api.IsNull))), words(nil), wholes(nil))
	expectRows(t, "P6: nulls of a Project", given, plan(scan(0), project(0, expr(col(0)), expr(col(1), num(1), op(api.Add)), expr(col(1), rescale(6)))), words(nil, "y"), wholes(nil, 2), decimals(6, nil, 1000000))
}

// full is a table of MaxCols columns and MaxRows rows, and long are the rows of one of its columns.
func full() (api.Table, []any) {
	long := make([]any, api.MaxRows)
	for i := range long {
		if i%7 != 3 {
			long[i] = i * i
		}
	}
	return table(slices.Repeat([]api.Column{wholes(long...)}, api.MaxCols)...), long
}

func TestP6Bounds(t *testing.T) {
	wide, long := full()
	given := slices.Repeat(tables(wide), api.MaxTables)
	expectRows(t, "P6: MaxTables, MaxCols and MaxRows", given, plan(scan(api.MaxTables-1)), wide.Cols...)
	expectRows(t, "P6: MaxNodes", given, chain(api.MaxNodes), wide.Cols...)
	expectRows(t, "P6: MaxExprs", given, plan(scan(0), project(0, slices.Repeat([][]api.Term{expr(col(7))}, api.MaxExprs)...)), wide.Cols...)
	expectRows(t, "P6: MaxTerms", given, plan(scan(0), filter(0, nots(api.MaxTerms)...)), table(slices.Repeat([]api.Column{wholes()}, api.MaxCols)...).Cols...)
	deep := append(slices.Repeat(expr(num(1)), api.MaxTerms/2), slices.Repeat(expr(op(api.Add)), api.MaxTerms/2-1)...)
	expectRows(t, "P6: a deep stack", given, plan(scan(0), project(0, deep, expr(col(0)))), wholes(slices.Repeat([]any{10}, api.MaxRows)...), wholes(long...))
	expectRows(t, "P6: MaxText", tables(table(words(letters(16)))), plan(scan(0), filter(0, col(0), word(letters(16)), op(api.Eq))), words(letters(16)))
}

func TestP6TypesAreThoseOfTypes(t *testing.T) {
	good := 0
	for _, c := range telling() {
		columns, _ := quarry.Types(c.given, c.nodes)
		for _, by := range teams() {
			got, errno, _ := quarry.Run(c.given, c.nodes, by.workers, by.morsel)
			if errno != api.OK {
				continue
			}
			good++
			if !slices.EqualFunc(got.Cols, columns, func(a, b api.Column) bool { return a.Kind == b.Kind && a.Scale == b.Scale }) {
				t.Errorf("P6: %+v: Run by %v = %+v, Types = %+v", c.nodes, by, got, columns)
			}
		}
	}
	if want := (len(goodPlans()) + 5) * len(teams()); good != want {
		t.Errorf("P6: %d of the runs came out well, want %d", good, want)
	}
}
