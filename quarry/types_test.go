package quarry_test

import (
	"testing"

	"quarry/api"
	"quarry/quarry"
)

type pair struct{ kind, scale int }

func expectTypes(t *testing.T, what string, given []api.Table, nodes []api.Node, want ...pair) {
	t.Helper()
	columns, errno := quarry.Types(given, nodes)
	if errno != api.OK || len(columns) != len(want) {
		t.Errorf("P4: %s: Types = %+v, %d, want %v", what, columns, errno, want)
		return
	}
	for i, column := range columns {
		if column.Kind != want[i].kind || column.Scale != want[i].scale {
			t.Errorf("P4: %s: the column %d is %+v, want %v", what, i, column, want[i])
		}
		if len(column.Ints)+len(column.Strs)+len(column.Nulls) != 0 {
			t.Errorf("P4: %s: the column %d has entries: %+v", what, i, column)
		}
	}
}

func TestP4Types(t *testing.T) {
	given := tables(sample(), table(numbers(api.Dec, 6, 2), texts(2)))
	whole, money, text, fine := pair{api.Int, 0}, pair{api.Dec, 2}, pair{api.Str, 0}, pair{api.Dec, 6}
	expectTypes(t, "a Scan", given, plan(scan(0)), whole, money, text)
	expectTypes(t, "a Scan of another", given, plan(scan(1)), fine, text)
	expectTypes(t, "a Filter", given, plan(scan(0), filter(0, yes()...)), whole, money, text)
	expectTypes(t, "a Project", given, plan(scan(0), project(0, expr(col(2)), expr(col(1), rescale(6)), expr(num(7)))), text, fine, whole)
	expectTypes(t, "the document's Project", given, plan(scan(0), project(0, expr(col(1), fix(1, 2), op(api.Add)), expr(col(0), col(1), op(api.Mul)), expr(col(1), rescale(1)))), money, money, pair{api.Dec, 1})
	expectTypes(t, "a Join", given, plan(scan(0), scan(1), join(0, 1, ints(2), ints(1))), whole, money, text, fine, text)
	expectTypes(t, "a Join the other way", given, plan(scan(0), scan(1), join(1, 0, ints(1), ints(2))), fine, text, whole, money, text)
	expectTypes(t, "a Group's keys alone", given, plan(scan(0), group(0, ints(2, 0, 2))), text, whole, text)
	expectTypes(t, "a Group's Counts", given, plan(scan(0), group(0, nil, api.Agg{Kind: api.Count, A: -1}, api.Agg{Kind: api.Count, A: 1}, api.Agg{Kind: api.Count, A: 2})), whole, whole, whole)
	expectTypes(t, "a Group's Sums", given, plan(scan(0), group(0, nil, api.Agg{Kind: api.Sum, A: 1}, api.Agg{Kind: api.Sum, A: 0})), money, whole)
	expectTypes(t, "a Group's Least and Greatest", given, plan(scan(0), group(0, ints(1), api.Agg{Kind: api.Least, A: 2}, api.Agg{Kind: api.Greatest, A: 1}, api.Agg{Kind: api.Least, A: 0})), money, text, money, whole)
	expectTypes(t, "the last node's, not a later table's", given, plan(scan(1), scan(0), join(1, 0, ints(2), ints(1)), group(2, ints(3)), filter(3, yes()...)), fine)
	expectTypes(t, "MaxCols", tables(wide(8)), plan(scan(0)), whole, whole, whole, whole, whole, whole, whole, whole)
}

func TestP4ErrorsOfCheck(t *testing.T) {
	for _, c := range []planCase{
		{"ErrPlan", plan(scan(7)), api.ErrPlan, 0},
		{"ErrPlan of no nodes", nil, api.ErrPlan, 0},
		{"ErrPlan of a loose node", plan(scan(0), scan(0)), api.ErrPlan, 0},
		{"ErrType", plan(scan(0), filter(0, col(0))), api.ErrType, 1},
	} {
		if columns, errno := quarry.Types(tables(sample()), c.plan); errno != c.want || len(columns) != 0 {
			t.Errorf("P4: %s: Types = %+v, %d", c.what, columns, errno)
		}
	}
	if columns, errno := quarry.Types(tables(api.Table{}), plan(scan(0))); errno != api.ErrTable || len(columns) != 0 {
		t.Errorf("P4: ErrTable: Types = %+v, %d", columns, errno)
	}
}
