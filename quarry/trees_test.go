package quarry_test

import (
	"math"
	"slices"
	"testing"

	"quarry/api"
	"quarry/quarry"
)

// sales has a shop (or none), a ware and a price at each row; wares has wares with what they weigh.
func sales() api.Table {
	return table(words("n", "s", nil, "n", "s", "n", nil), words("tea", "oil", "tea", "oil", "tea", "tea", "rye"), decimals(2, 250, 900, 300, nil, 275, 260, 120))
}

func wares() api.Table {
	return table(words("oil", "tea", "nut"), wholes(9, 2, 5))
}

func TestP6GroupsAboveJoins(t *testing.T) {
	given := tables(sales(), wares())
	joined := plan(scan(0), scan(1), join(0, 1, ints(1), ints(0)))
	expectRows(t, "P6: by a key of the one", given, append(joined, group(2, ints(0), rowsOf(), agg(api.Sum, 2), agg(api.Sum, 4))), words("n", "s", nil), wholes(3, 2, 1), decimals(2, 510, 1175, 300), wholes(13, 11, 2))
	expectRows(t, "P6: by a key of the other", given, append(joined, group(2, ints(3), agg(api.Least, 2), agg(api.Greatest, 0))), words("tea", "oil"), decimals(2, 250, 900), words("s", "s"))
	expectRows(t, "P6: by keys of both", given, append(joined, group(2, ints(4, 0), agg(api.Count, 2))), wholes(2, 9, 2, 9, 2), words("n", "s", nil, "n", "s"), wholes(2, 1, 1, 0, 1))
	expectRows(t, "P6: without keys", given, append(joined, group(2, nil, rowsOf(), agg(api.Count, 0), agg(api.Greatest, 3))), wholes(6), wholes(5), words("tea"))
	between := append(joined, filter(2, col(0), op(api.IsNull), op(api.Not)), project(3, expr(col(0)), expr(col(2), col(4), op(api.Mul))), group(4, ints(0), agg(api.Sum, 1), agg(api.Least, 1)))
	expectRows(t, "P6: with a Filter and a Project between", given, between, words("n", "s"), decimals(2, 1020, 8650), decimals(2, 500, 550))
	expectFault(t, "P5: a Group's place has two numbers", given, append(joined, group(2, ints(3), agg(api.Count, 2)), filter(3, col(0), word("oil"), op(api.Eq)), project(4, tooMuch())), api.ErrOverflow, 5, 1, 0)
}

func TestP6JoinsAboveGroups(t *testing.T) {
	given := tables(sales(), wares())
	totals := group(0, ints(1), rowsOf(), agg(api.Sum, 2))
	expectRows(t, "P6: a Group on the left", given, plan(scan(0), totals, scan(1), join(1, 2, ints(0), ints(0))), words("tea", "oil"), wholes(4, 2), decimals(2, 1085, 900), words("tea", "oil"), wholes(2, 9))
	expectRows(t, "P6: a Group on the right", given, plan(scan(0), totals, scan(1), join(2, 1, ints(0), ints(0))), words("oil", "tea"), wholes(9, 2), words("oil", "tea"), wholes(2, 4), decimals(2, 900, 1085))
	both := plan(scan(0), group(0, ints(1), rowsOf()), scan(0), group(2, ints(0), rowsOf()), join(1, 3, ints(1), ints(1)))
	expectRows(t, "P6: Groups on both sides", given, both, words("oil", "oil"), wholes(2, 2), words("s", nil), wholes(2, 2))
	rows := plan(scan(0), scan(0), totals, join(1, 2, ints(1), ints(0)), project(3, expr(col(1)), expr(col(2)), expr(col(5))))
	rows[2].A = 0
	expectRows(t, "P6: each row with its group", given, rows, words("tea", "oil", "tea", "oil", "tea", "tea", "rye"), decimals(2, 250, 900, 300, nil, 275, 260, 120), decimals(2, 1085, 900, 1085, 900, 1085, 1085, 120))
	nulls := plan(scan(0), group(0, ints(0)), scan(0), group(2, ints(0), rowsOf()), join(1, 3, ints(0), ints(0)))
	expectRows(t, "P6: a group of nulls matches none", given, nulls, words("n", "s"), words("n", "s"), wholes(3, 2))
	expectFault(t, "P5: the place is that of two groups", given, append(nulls, project(4, expr(col(2), num(math.MaxInt64-2), op(api.Add)))), api.ErrOverflow, 5, 0, 0)
	expectFault(t, "P5: the place is that of two groups", given, append(nulls, filter(4, col(0), word("s"), op(api.Eq)), filter(5, asks(tooMuch())...)), api.ErrOverflow, 6, 1, 1)
}

func TestP6GroupsOfGroupsAndJoins(t *testing.T) {
	given := tables(sales(), wares())
	twice := plan(scan(0), group(0, ints(0, 1), rowsOf(), agg(api.Sum, 2)), group(1, ints(2), rowsOf(), agg(api.Sum, 3), agg(api.Greatest, 1)))
	expectRows(t, "P6: a Group of a Group", given, twice, wholes(2, 1), wholes(1, 5), decimals(2, 510, 1595), words("tea", "tea"))
	deep := plan(scan(0), scan(1), join(0, 1, ints(1), ints(0)), group(2, ints(0, 3), agg(api.Sum, 2)), scan(1), join(3, 4, ints(1), ints(0)), filter(5, col(2), op(api.IsNull), op(api.Not)), project(6, expr(col(0)), expr(col(2), col(4), op(api.Mul))), group(7, ints(0), agg(api.Sum, 1), rowsOf()), filter(8, num(1), col(2), op(api.Lt)))
	expectRows(t, "P6: all kinds, MaxNodes of them", given, deep, words("s"), decimals(2, 8650), wholes(2))
	expectRows(t, "P6: all but the last", given, deep[:9], words("n", "s", nil), decimals(2, 1020, 8650, 600), wholes(1, 2, 1))
	expectPlaces(t, "P6: of its rows", placesOf(given, plan(scan(0), scan(1), join(0, 1, ints(1), ints(0)), group(2, ints(0), agg(api.Least, 4), agg(api.Sum, 4))), 1, 2), ints(0, 1), ints(1, 0), ints(2, 1))
}

// bulky are tables of many rows in which keys come again and again, and nulls between.
func bulky() []api.Table {
	var list []api.Table
	for _, step := range ints(3, 5, 7) {
		keys, many, letter := numbers(api.Int, 0, api.MaxRows), numbers(api.Dec, 2, api.MaxRows), texts(api.MaxRows)
		for i := range api.MaxRows {
			keys.Ints[i], keys.Nulls[i] = int64(i*step%11), i%13 == 4
			many.Ints[i] = int64(i*i*step%101 - 50)
			letter.Strs[i], letter.Nulls[i] = letters(i*step%4), i%9 == 2
		}
		list = append(list, table(keys, many, letter))
	}
	return list
}

// bulkyPlans are plans over them of all kinds of nodes: some come out well, some have a fault of each kind.
func bulkyPlans() [][]api.Node {
	joined := plan(scan(0), scan(1), join(0, 1, ints(0), ints(0)))
	grouped := append(slices.Clip(joined), group(2, ints(2, 5), agg(api.Count, 2), agg(api.Sum, 1), agg(api.Least, 4)))
	return [][]api.Node{
		plan(scan(0)),
		plan(scan(0), filter(0, num(5), col(0), op(api.Lt)), project(1, expr(col(2)), expr(col(0), col(0), op(api.Mul)))),
		plan(scan(0), project(0, expr(col(0)), above(9), above(7), above(8)), filter(1, asks(always())...)),
		joined,
		grouped,
		append(slices.Clip(grouped), scan(2), join(3, 4, ints(0), ints(2)), filter(5, col(6), fix(-20, 2), op(api.Lt))),
		append(slices.Clip(joined), project(2, expr(col(4), col(1), op(api.Sub), fix(math.MaxInt64-91, 2), op(api.Add)))),
		append(slices.Clip(joined), project(2, expr(col(0)), expr(col(4), num(math.MaxInt64/200), op(api.Mul))), group(3, ints(0), agg(api.Sum, 1))),
		append(slices.Clip(joined), project(2, expr(col(0)), expr(col(4))), scan(2), join(3, 4, ints(0), ints(0)), group(5, nil, rowsOf())),
		plan(scan(0), scan(1), join(0, 1, ints(2), ints(2)), project(2, tooMuch())),
	}
}

func TestP7EveryTeam(t *testing.T) {
	given := bulky()
	seen := map[api.Errno]int{}
	for _, nodes := range bulkyPlans() {
		if errno, fault := quarry.Check(given, nodes); errno != api.OK {
			t.Fatalf("P7: %+v: Check = %d, %+v", nodes, errno, fault)
		}
		want := (&model{tables: given}).run(nodes)
		seen[want.errno]++
		for workers := 1; workers <= api.MaxWorkers; workers++ {
			for morsel := 1; morsel <= api.MaxMorsel; morsel++ {
				got, errno, fault := quarry.Run(given, nodes, workers, morsel)
				if errno != want.errno || !same(got, want.table) || fault.Node != want.fault.Node || !slices.Equal(fault.Rows, want.fault.Rows) {
					t.Fatalf("P7: %+v: Run by %d, %d = %+v, %d, %+v, want %+v", nodes, workers, morsel, got, errno, fault, want)
				}
			}
		}
	}
	if seen[api.OK] < 5 || seen[api.ErrOverflow] < 3 || seen[api.ErrLimit] < 2 {
		t.Errorf("the plans are too much alike: %v", seen)
	}
}
