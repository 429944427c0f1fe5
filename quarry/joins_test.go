package quarry_test

import (
	"math"
	"slices"
	"testing"

	"quarry/api"
	"quarry/quarry"
)

// tooMuch is an expression at which every row errs.
func tooMuch() []api.Term { return expr(num(math.MaxInt64), num(1), op(api.Add)) }

// placesOf tells the places of all rows of a plan: it leaves one row at a time for a Project at which it errs.
// The columns, Int without nulls, tell the rows apart.
func placesOf(given []api.Table, nodes []api.Node, columns ...int) [][]int {
	var places [][]int
	last := len(nodes) - 1
	came, _, _ := quarry.Run(given, nodes, 3, 2)
	for i := range came.Cols[columns[0]].Ints {
		terms := yes()
		for _, place := range columns {
			terms = append(terms, col(place), num(came.Cols[place].Ints[i]), op(api.Eq), op(api.And))
		}
		_, _, fault := quarry.Run(given, append(slices.Clip(nodes), filter(last, terms...), project(last+1, tooMuch())), 2, 3)
		places = append(places, fault.Rows)
	}
	return places
}

func expectPlaces(t *testing.T, what string, got [][]int, want ...[]int) {
	t.Helper()
	if !slices.EqualFunc(got, want, slices.Equal) {
		t.Errorf("%s: the places are %v, want %v", what, got, want)
	}
}

func TestP6JoinExample(t *testing.T) {
	given := tables(sample())
	nodes := plan(scan(0), scan(0), join(0, 1, ints(2), ints(2)))
	expectRows(t, "P6: a Join", given, nodes,
		wholes(1, 1, 2, nil, nil, 4), decimals(2, 150, 150, -25, 300, 300, nil), words("x", "x", "y", "x", "x", "z"),
		wholes(1, nil, 2, 1, nil, 4), decimals(2, 150, 300, -25, 150, 300, nil), words("x", "x", "y", "x", "x", "z"))
	numbered := tables(table(counting(4), words("x", "y", "x", "z")))
	nodes = plan(scan(0), scan(0), join(0, 1, ints(1), ints(1)))
	expectPlaces(t, "P6: a Join", placesOf(numbered, nodes, 0, 2), ints(0, 0), ints(0, 2), ints(1, 1), ints(2, 0), ints(2, 2), ints(3, 3))
}

func TestP6JoinByEachType(t *testing.T) {
	given := tables(
		table(wholes(3, nil, 1, 2, 1, 0), decimals(2, 100, 300, nil, 100, 0, -5), words("b", "", nil, "b", "a", "B"), counting(6)),
		table(counting(5), words("b", nil, "a", "", "b"), decimals(2, nil, 0, 100, -5, 30), wholes(1, nil, 0, 1, 3)),
	)
	both := func(keys, others []int) []api.Node {
		return plan(scan(0), scan(1), join(0, 1, keys, others), project(2, expr(col(3)), expr(col(4))))
	}
	expectRows(t, "P6: by an Int", given, both(ints(0), ints(3)), wholes(0, 2, 2, 4, 4, 5), wholes(4, 0, 3, 0, 3, 2))
	expectRows(t, "P6: by a Dec", given, both(ints(1), ints(2)), wholes(0, 3, 4, 5), wholes(2, 2, 1, 3))
	expectRows(t, "P6: by a Str", given, both(ints(2), ints(1)), wholes(0, 0, 1, 3, 3, 4), wholes(0, 4, 3, 0, 4, 2))
	expectRows(t, "P6: by a Str and an Int", given, both(ints(2, 0), ints(1, 3)), wholes(0), wholes(4))
	expectRows(t, "P6: by an Int and a Str", given, both(ints(0, 2), ints(3, 1)), wholes(0), wholes(4))
	expectRows(t, "P6: by all types", given, both(ints(0, 1, 2), ints(3, 2, 1)), wholes(), wholes())
	expectRows(t, "P6: of a Dec of the scale 0", tables(table(decimals(0, 7, 8))), plan(scan(0), scan(0), join(0, 1, ints(0), ints(0))), decimals(0, 7, 8), decimals(0, 7, 8))
}

func TestP6JoinNullsAreNeverEqual(t *testing.T) {
	numbers := api.Column{Kind: api.Int, Ints: []int64{7, 7, 0, 5}, Nulls: []bool{true, false, false, true}}
	letter := api.Column{Kind: api.Str, Strs: []string{"q", "q", "", ""}, Nulls: []bool{true, false, false, true}}
	given := tables(table(numbers, letter))
	expectRows(t, "P6: nulls of an Int", given, plan(scan(0), scan(0), join(0, 1, ints(0), ints(0))), wholes(7, 0), words("q", ""), wholes(7, 0), words("q", ""))
	expectRows(t, "P6: nulls of a Str", given, plan(scan(0), scan(0), join(0, 1, ints(1), ints(1))), wholes(7, 0), words("q", ""), wholes(7, 0), words("q", ""))
	alone := tables(table(wholes(nil, nil), decimals(1, nil, nil), words(nil, nil)))
	for key := range 3 {
		expectRows(t, "P6: nulls alone", alone, plan(scan(0), scan(0), join(0, 1, ints(key), ints(key))), wholes(), decimals(1), words(), wholes(), decimals(1), words())
	}
	some := tables(table(wholes(1, 1, nil, 2), wholes(nil, 5, 5, 6)))
	expectRows(t, "P6: a null in one of two keys", some, plan(scan(0), scan(0), join(0, 1, ints(0, 1), ints(0, 1))), wholes(1, 2), wholes(5, 6), wholes(1, 2), wholes(5, 6))
	expectRows(t, "P6: a null that is no key", some, plan(scan(0), scan(0), join(0, 1, ints(0), ints(0))), wholes(1, 1, 1, 1, 2), wholes(nil, nil, 5, 5, 6), wholes(1, 1, 1, 1, 2), wholes(nil, 5, nil, 5, 6))
	made := plan(scan(0), project(0, expr(col(0), col(1), op(api.Add))), scan(0), join(1, 2, ints(0), ints(1)))
	expectRows(t, "P6: a null that was reckoned", some, made, wholes(6), wholes(2), wholes(6))
}

func TestP6JoinKeysGoByPairs(t *testing.T) {
	given := tables(table(wholes(1, 2, 3), wholes(2, 2, 1)), table(wholes(2, 3, 2, 1), wholes(1, 1, 2, 3)))
	of := func(keys, others []int) []api.Node { return plan(scan(0), scan(1), join(0, 1, keys, others)) }
	expectRows(t, "P6: crosswise", given, of(ints(0, 1), ints(1, 0)), wholes(1, 2, 3), wholes(2, 2, 1), wholes(2, 2, 1), wholes(1, 2, 3))
	expectRows(t, "P6: crosswise, turned round", given, of(ints(1, 0), ints(0, 1)), wholes(1, 2, 3), wholes(2, 2, 1), wholes(2, 2, 1), wholes(1, 2, 3))
	expectRows(t, "P6: straight", given, of(ints(0, 1), ints(0, 1)), wholes(2, 3), wholes(2, 1), wholes(2, 3), wholes(2, 1))
	expectRows(t, "P6: one with two", given, of(ints(0, 0), ints(0, 1)), wholes(2), wholes(2), wholes(2), wholes(2))
	expectRows(t, "P6: two with one", given, of(ints(0, 1), ints(1, 1)), wholes(2), wholes(2), wholes(2), wholes(2))
	expectRows(t, "P6: the same twice", given, of(ints(0, 0), ints(0, 0)), wholes(1, 2, 2, 3), wholes(2, 2, 2, 1), wholes(1, 2, 2, 3), wholes(3, 1, 2, 1))
	same := slices.Repeat([]api.Column{wholes(1, nil, 2)}, 4)
	four := tables(table(same...), table(wholes(1, 1, 2, 2), wholes(1, 1, 2, 2), wholes(1, 1, 2, 2), wholes(1, 2, 2, nil)))
	expectRows(t, "P6: MaxKeys and MaxCols", four, plan(scan(0), scan(1), join(0, 1, ints(0, 1, 2, 3), ints(0, 1, 2, 3))), slices.Repeat([]api.Column{wholes(1, 2)}, 8)...)
}

func TestP6JoinTexts(t *testing.T) {
	list := []any{"", "a", "A", "a ", "\x00", "a\x00", "é", "e\u0301", letters(16), letters(15), "\xff", "1", "01"}
	given := tables(table(words(list...)))
	expectRows(t, "P6: texts are equal byte by byte", given, plan(scan(0), scan(0), join(0, 1, ints(0), ints(0))), words(list...), words(list...))
	keys := plan(scan(0), project(0, expr(word("a")), expr(col(0))), scan(0), join(1, 2, ints(0), ints(0)))
	expectRows(t, "P6: a Word of the plan", given, keys, words(slices.Repeat([]any{"a"}, len(list))...), words(list...), words(slices.Repeat([]any{"a"}, len(list))...))
}

func TestP6JoinOrder(t *testing.T) {
	given := tables(table(wholes(1, 0, 1), wholes(10, 11, 12)), table(wholes(1, 1, 0, 1), wholes(23, 22, 21, 20)))
	one := plan(scan(0), scan(1), join(0, 1, ints(0), ints(0)), project(2, expr(col(1)), expr(col(3))))
	expectRows(t, "P6: first by the one, then by the other", given, one, wholes(10, 10, 10, 11, 12, 12, 12), wholes(23, 22, 20, 21, 23, 22, 20))
	other := plan(scan(0), scan(1), join(1, 0, ints(0), ints(0)), project(2, expr(col(1)), expr(col(3))))
	expectRows(t, "P6: the other way round", given, other, wholes(23, 23, 22, 22, 21, 20, 20), wholes(10, 12, 10, 12, 11, 10, 12))
	expectPlaces(t, "P6: of the one", placesOf(given, one[:3], 1, 3), ints(0, 0), ints(0, 1), ints(0, 3), ints(1, 2), ints(2, 0), ints(2, 1), ints(2, 3))
	expectPlaces(t, "P6: of the other", placesOf(given, other[:3], 1, 3), ints(0, 0), ints(0, 2), ints(1, 0), ints(1, 2), ints(2, 1), ints(3, 0), ints(3, 2))
	early := plan(scan(1), scan(0), join(1, 0, ints(0), ints(0)))
	expectPlaces(t, "P6: not by the order of the Scans", placesOf(given, early, 1, 3), ints(0, 0), ints(0, 1), ints(0, 3), ints(1, 2), ints(2, 0), ints(2, 1), ints(2, 3))
}

func TestP6JoinsOfJoins(t *testing.T) {
	given := tables(table(wholes(5, 6, 5), wholes(0, 1, 2)))
	left := plan(scan(0), scan(0), join(0, 1, ints(0), ints(0)), scan(0), join(2, 3, ints(1), ints(1)))
	expectRows(t, "P6: a Join, and a Scan", given, left, wholes(5, 5, 6, 5, 5), wholes(0, 0, 1, 2, 2), wholes(5, 5, 6, 5, 5), wholes(0, 2, 1, 0, 2), wholes(5, 5, 6, 5, 5), wholes(0, 0, 1, 2, 2))
	expectPlaces(t, "P6: a Join, and a Scan", placesOf(given, left, 1, 3, 5), ints(0, 0, 0), ints(0, 2, 0), ints(1, 1, 1), ints(2, 0, 2), ints(2, 2, 2))
	right := plan(scan(0), scan(0), join(0, 1, ints(0), ints(0)), scan(0), join(3, 2, ints(1), ints(3)))
	expectPlaces(t, "P6: a Scan, and a Join", placesOf(given, right, 1, 3, 5), ints(0, 0, 0), ints(0, 2, 0), ints(1, 1, 1), ints(2, 0, 2), ints(2, 2, 2))
	expectRows(t, "P6: a Scan, and a Join", given, append(right, project(4, expr(col(1)), expr(col(3)), expr(col(5)))), wholes(0, 0, 1, 2, 2), wholes(0, 2, 1, 0, 2), wholes(0, 0, 1, 2, 2))
	four := plan(scan(0), scan(0), join(0, 1, ints(1), ints(1)), scan(0), scan(0), join(3, 4, ints(0), ints(0)), join(2, 5, ints(0), ints(0)))
	got := placesOf(given, four, 1, 3, 5, 7)
	want := [][]int{ints(0, 0, 0, 0), ints(0, 0, 0, 2), ints(0, 0, 2, 0), ints(0, 0, 2, 2), ints(1, 1, 1, 1), ints(2, 2, 0, 0), ints(2, 2, 0, 2), ints(2, 2, 2, 0), ints(2, 2, 2, 2)}
	expectPlaces(t, "P6: two Joins", got, want...)
}

func TestP6JoinWithoutRows(t *testing.T) {
	given := tables(table(wholes(1, 2)), table(wholes()), table(wholes(3, 4)))
	for what, nodes := range map[string][]api.Node{
		"on the left":       plan(scan(1), scan(0), join(0, 1, ints(0), ints(0))),
		"on the right":      plan(scan(0), scan(1), join(0, 1, ints(0), ints(0))),
		"on both sides":     plan(scan(1), scan(1), join(0, 1, ints(0), ints(0))),
		"none that match":   plan(scan(0), scan(2), join(0, 1, ints(0), ints(0))),
		"none behind a few": plan(scan(0), scan(0), join(0, 1, ints(0), ints(0)), filter(2, num(2), col(0), op(api.Lt))),
	} {
		expectRows(t, "P6: a Join without rows, "+what, given, nodes, wholes(), wholes())
	}
}

// equals is a column of n times the same Int, and behind them the rest.
func equals(n int, rest ...any) api.Column {
	return wholes(slices.Concat(slices.Repeat([]any{8}, n), rest)...)
}

func limitTables() []api.Table {
	return tables(table(equals(20, 1, 2)), table(equals(15, 2)), table(equals(15, 3)), table(equals(40)))
}

// byFirst is a Join of the tables by their first columns.
func byFirst(one, other int) []api.Node {
	return plan(scan(one), scan(other), join(0, 1, ints(0), ints(0)))
}

func TestP5JoinOfJustMaxOut(t *testing.T) {
	given := limitTables()
	whole := slices.Repeat([]any{8}, api.MaxOut)
	expectRows(t, "P5: MaxOut rows", given, byFirst(0, 2), wholes(whole...), wholes(whole...))
	expectRows(t, "P5: MaxOut rows, the other way round", given, byFirst(2, 0), wholes(whole...), wholes(whole...))
	expectRows(t, "P5: one row that all the others match", tables(table(equals(1)), table(equals(40))), byFirst(0, 1), equals(40), equals(40))
	above := append(byFirst(0, 2), filter(2, yes()...), project(3, expr(col(0), col(1), op(api.Mul))))
	expectRows(t, "P5: nodes above MaxOut rows", given, above, wholes(slices.Repeat([]any{64}, api.MaxOut)...))
	again := append(byFirst(0, 2), scan(3), filter(3, num(8), col(0), op(api.Lt)), join(2, 4, ints(0), ints(0)))
	expectRows(t, "P5: a Join of MaxOut rows with none", given, again, wholes(), wholes(), wholes())
}

func TestP5JoinOfMoreThanMaxOut(t *testing.T) {
	given := limitTables()
	first := tables(table(wholes(slices.Insert(slices.Repeat([]any{8}, 20), 0, any(2))...)), table(wholes(slices.Insert(slices.Repeat([]any{8}, 15), 0, any(2))...)))
	for range 10 {
		expectFault(t, "P5: one row more", given, byFirst(0, 1), api.ErrLimit, 2)
		expectFault(t, "P5: one row more, the other way round", given, byFirst(1, 0), api.ErrLimit, 2)
		expectFault(t, "P5: one row more, at the beginning", first, byFirst(0, 1), api.ErrLimit, 2)
		expectFault(t, "P5: as many as two Scans can give", given, byFirst(3, 3), api.ErrLimit, 2)
	}
	nodes := plan(scan(0), scan(2), join(0, 1, ints(0), ints(0)), scan(2), scan(0), join(3, 4, ints(0), ints(0)), join(2, 5, ints(0), ints(0)))
	expectFault(t, "P5: as many as two Joins can give", given, nodes, api.ErrLimit, 6)
	few := plan(scan(0), scan(2), join(0, 1, ints(0), ints(0)), scan(2), filter(3, col(0), num(3), op(api.Eq), op(api.Not)), join(2, 4, ints(0), ints(0)), filter(5, num(1), num(2), op(api.Eq)))
	expectFault(t, "P5: rows that a Filter would leave out", given, few, api.ErrLimit, 5)
}

func TestP5JoinAndAnotherFault(t *testing.T) {
	given := limitTables()
	over := func(child int) api.Node { return project(child, tooMuch()) }
	asked := func(child int) api.Node { return filter(child, asks(tooMuch())...) }
	limit := func(one, other int) api.Node { return join(one, other, ints(0), ints(0)) }
	for range 10 {
		expectFault(t, "P5: below the Join", given, plan(scan(3), over(0), scan(3), limit(1, 2)), api.ErrOverflow, 1, 0)
		expectFault(t, "P5: below the Join, on its right", given, plan(scan(3), scan(3), asked(1), limit(0, 2)), api.ErrOverflow, 2, 0)
		expectFault(t, "P5: above the Join", given, plan(scan(3), scan(3), limit(0, 1), over(2)), api.ErrLimit, 2)
		expectFault(t, "P5: beside the Join, behind it", given, plan(scan(3), scan(3), limit(0, 1), scan(0), over(3), limit(2, 4)), api.ErrLimit, 2)
		expectFault(t, "P5: beside the Join, ahead of it", given, plan(scan(0), over(0), scan(3), scan(3), limit(2, 3), limit(1, 4)), api.ErrOverflow, 1, 0)
		expectFault(t, "P5: beside the Join, between its children", given, plan(scan(3), scan(0), asked(1), scan(3), limit(0, 3), limit(4, 2)), api.ErrOverflow, 2, 0)
		expectFault(t, "P5: two Joins", given, plan(scan(3), scan(3), scan(3), scan(3), limit(2, 3), limit(0, 1), limit(4, 5)), api.ErrLimit, 4)
		expectFault(t, "P5: the right child is at fault first", given, plan(scan(3), scan(3), over(1), over(0), limit(3, 2)), api.ErrOverflow, 2, 0)
		expectFault(t, "P5: a Sum behind the Join", given, plan(scan(3), scan(3), limit(0, 1), group(2, nil, api.Agg{Kind: api.Sum, A: 0})), api.ErrLimit, 2)
	}
}

func TestP5PlacesOfJoinsThatErr(t *testing.T) {
	given := tables(table(wholes(1, 2, 1, 2), wholes(4, 3, 2, 1)), table(wholes(2, 1, 2), wholes(30, 20, 10)))
	of := func(one, other int, terms ...api.Term) []api.Node {
		return plan(scan(0), scan(1), join(one, other, ints(0), ints(0)), project(2, terms))
	}
	for range 10 {
		expectFault(t, "P5: every row", given, of(0, 1, tooMuch()...), api.ErrOverflow, 3, 0, 1)
		expectFault(t, "P5: every row, the other way round", given, of(1, 0, tooMuch()...), api.ErrOverflow, 3, 0, 1)
		expectFault(t, "P5: by the other one's values", given, of(0, 1, col(3), num(math.MaxInt64-29), op(api.Add)), api.ErrOverflow, 3, 1, 0)
		expectFault(t, "P5: by the other one's values", given, of(0, 1, num(math.MinInt64+19), col(3), op(api.Sub)), api.ErrOverflow, 3, 0, 1)
		expectFault(t, "P5: by values of both", given, of(0, 1, num(math.MaxInt64-11), col(1), col(3), op(api.Add), op(api.Add)), api.ErrOverflow, 3, 0, 1)
		expectFault(t, "P5: the one that is left", given, plan(scan(0), scan(1), join(0, 1, ints(0), ints(0)), filter(2, col(1), col(3), op(api.Add), num(11), op(api.Eq)), filter(3, asks(tooMuch())...)), api.ErrOverflow, 4, 3, 2)
		expectFault(t, "P5: of what a Filter left of the other", given, plan(scan(0), scan(1), filter(1, col(1), num(10), op(api.Eq)), join(0, 2, ints(0), ints(0)), project(3, tooMuch())), api.ErrOverflow, 4, 1, 2)
	}
}
