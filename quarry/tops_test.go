package quarry_test

import (
	"math"
	"math/rand"
	"slices"
	"testing"

	"quarry/api"
	"quarry/quarry"
)

// page is which rows Top is asked for.
type page struct{ from, count int }

// pages are some of each end, and between.
func pages() []page {
	var list []page
	ends := ints(0, 1, 3, 39, 40, 299, api.MaxOut, math.MaxInt)
	for _, from := range ends {
		for _, count := range ends {
			list = append(list, page{from, count})
		}
	}
	return list
}

func top(given []api.Table, nodes []api.Node, by team, of page) answer {
	return told(quarry.Top(given, nodes, by.workers, by.morsel, of.from, of.count))
}

// run is the answer of Run by one worker.
func run(given []api.Table, nodes []api.Node) answer {
	return told(quarry.Run(given, nodes, 1, api.MaxMorsel))
}

func told(came api.Table, errno api.Errno, fault api.Fault) answer { return answer{came, errno, fault} }

// equal tells whether two answers are, a list without entries being the same as nil.
func equal(one, other answer) bool {
	return one.errno == other.errno && same(one.table, other.table) && one.fault.Node == other.fault.Node && slices.Equal(one.fault.Rows, other.fault.Rows)
}

// expectTop holds what Top answers by each of the teams against another answer.
func expectTop(t *testing.T, what string, given []api.Table, nodes []api.Node, of page, want answer) {
	t.Helper()
	for _, by := range teams() {
		if got := top(given, nodes, by, of); !equal(got, want) {
			t.Errorf("%s: Top by %v of %v = %+v, want %+v", what, by, of, got, want)
		}
	}
}

func expectPage(t *testing.T, what string, given []api.Table, nodes []api.Node, of page, want ...api.Column) {
	t.Helper()
	expectTop(t, what, given, nodes, of, answer{table: table(want...)})
}

// cut is what a page has of a list: each entry is asked for itself.
func cut[T any](list []T, of page) []T {
	var some []T
	for i, entry := range list {
		if i >= of.from && i-of.from < of.count {
			some = append(some, entry)
		}
	}
	return some
}

// cutTable is what a page has of a table.
func cutTable(whole api.Table, of page) api.Table {
	var some api.Table
	for _, c := range whole.Cols {
		some.Cols = append(some.Cols, api.Column{Kind: c.Kind, Scale: c.Scale, Ints: cut(c.Ints, of), Strs: cut(c.Strs, of), Nulls: cut(c.Nulls, of)})
	}
	return some
}

// longer is a table with the rows of another one behind its own.
func longer(one, more api.Table) api.Table {
	if len(one.Cols) == 0 {
		return more
	}
	var both api.Table
	for i, c := range one.Cols {
		behind := more.Cols[i]
		both.Cols = append(both.Cols, api.Column{Kind: c.Kind, Scale: c.Scale, Ints: slices.Concat(c.Ints, behind.Ints), Strs: slices.Concat(c.Strs, behind.Strs), Nulls: slices.Concat(c.Nulls, behind.Nulls)})
	}
	return both
}

func expectArg(t *testing.T, what string, given []api.Table, nodes []api.Node, by team, of page) {
	t.Helper()
	if got := top(given, nodes, by, of); !equal(got, answer{errno: api.ErrArg}) {
		t.Errorf("P8: %s: Top by %v of %v = %+v, want ErrArg", what, by, of, got)
	}
}

func TestP8Workers(t *testing.T) {
	all := append(edges(), -1, 0, 1, 2, 15, 16, 17, 63, 64, 65)
	given, nodes := tables(sample()), plan(scan(0))
	want := answer{table: cutTable(run(given, nodes).table, page{1, 2})}
	for _, workers := range all {
		for _, morsel := range all {
			by := team{workers, morsel}
			if !bounded(workers, api.MaxWorkers) || !bounded(morsel, api.MaxMorsel) {
				expectArg(t, "of a good plan", given, nodes, by, page{1, 2})
			} else if got := top(given, nodes, by, page{1, 2}); !equal(got, want) {
				t.Errorf("P8: Top by %v = %+v, want %+v", by, got, want)
			}
		}
	}
}

// wrongPages are those that no table has, whatever its rows are.
func wrongPages() []page {
	var list []page
	for _, below := range ints(-1, -2, -api.MaxOut, math.MinInt32, math.MinInt+1, math.MinInt) {
		list = append(list, page{below, below})
		for _, other := range ints(0, 1, 4, math.MaxInt) {
			list = append(list, page{below, other}, page{other, below})
		}
	}
	return list
}

func TestP8FromAndCountBelow0(t *testing.T) {
	for _, of := range wrongPages() {
		for _, by := range append(teams(), team{0, 0}, team{17, 65}) {
			expectArg(t, "a good plan", tables(sample()), plan(scan(0)), by, of)
			expectArg(t, "a table without rows", tables(table(wholes())), plan(scan(0)), by, of)
			expectArg(t, "all nil", nil, nil, by, of)
		}
	}
}

func TestP8ArgumentsGoFirst(t *testing.T) {
	for _, c := range wrongRuns() {
		for _, of := range wrongPages() {
			expectArg(t, c.what, c.given, c.nodes, team{2, 3}, of)
		}
		for _, by := range []team{{0, 1}, {1, 0}, {17, 1}, {1, 65}, {-1, -1}, {math.MinInt, math.MaxInt}, {math.MaxInt, math.MinInt}} {
			for _, of := range []page{{0, 0}, {0, 1}, {math.MaxInt, math.MaxInt}, {-1, 0}} {
				expectArg(t, c.what, c.given, c.nodes, by, of)
			}
		}
	}
}

func TestP8ErrorsAreThoseOfRun(t *testing.T) {
	for _, c := range wrongRuns() {
		for _, of := range pages() {
			expectTop(t, "P8: "+c.what, c.given, c.nodes, of, answer{errno: c.want, fault: api.Fault{Node: c.node, Rows: c.place}})
		}
	}
}

// hidden is a plan with a fault that many a page would not come upon.
type hidden struct {
	what  string
	given []api.Table
	nodes []api.Node
	want  answer
}

func hiddenFaults() []hidden {
	errs := func(node int, place ...int) answer {
		return answer{errno: api.ErrOverflow, fault: api.Fault{Node: node, Rows: place}}
	}
	limit := func(node int) answer { return answer{errno: api.ErrLimit, fault: api.Fault{Node: node}} }
	none := func(child int) api.Node { return filter(child, num(1), num(2), op(api.Eq)) }
	sums := group(0, ints(0), agg(api.Sum, 1))
	return []hidden{
		{"the last row", rising(), plan(scan(0), project(0, above(38))), errs(1, 39)},
		{"the first row", falling(), plan(scan(0), project(0, above(38))), errs(1, 0)},
		{"rows between", rising(), plan(scan(0), project(0, above(16))), errs(1, 17)},
		{"of a Filter", rising(), plan(scan(0), filter(0, asks(above(38))...)), errs(1, 39)},
		{"of a Filter that leaves all out", rising(), plan(scan(0), filter(0, slices.Concat(asks(above(38)), expr(num(1), num(2), op(api.Eq), op(api.And)))...)), errs(1, 39)},
		{"below a Filter that leaves all out", rising(), plan(scan(0), project(0, above(38)), none(1)), errs(1, 39)},
		{"below a Group of one row", rising(), plan(scan(0), project(0, above(38)), group(1, nil, rowsOf())), errs(1, 39)},
		{"of a group", pairs(3), plan(scan(0), sums), errs(1, 3)},
		{"of a group, below a Filter that leaves all out", pairs(3), plan(scan(0), sums, none(1)), errs(1, 3)},
		{"of a Join", limitTables(), byFirst(0, 1), limit(2)},
		{"of a Join, below a Filter that leaves all out", limitTables(), append(byFirst(0, 1), none(2)), limit(2)},
		{"of a Join, below a Group of one row", limitTables(), append(byFirst(0, 1), group(2, nil, rowsOf())), limit(2)},
		{"of a row of a Join", limitTables(), append(byFirst(0, 2), project(2, tooMuch())), errs(3, 0, 0)},
	}
}

func TestP8FaultsAreThoseOfTheWholePlan(t *testing.T) {
	for _, c := range hiddenFaults() {
		for _, of := range pages() {
			expectTop(t, "P8: "+c.what, c.given, c.nodes, of, c.want)
		}
	}
}

func TestP8FromAndCount(t *testing.T) {
	given, nodes := tables(sample()), plan(scan(0))
	none := []api.Column{wholes(), decimals(2), words()}
	for _, c := range []struct {
		of   page
		want []api.Column
	}{
		{page{0, 0}, none}, {page{2, 0}, none}, {page{4, 0}, none}, {page{math.MaxInt, 0}, none},
		{page{0, 1}, []api.Column{wholes(1), decimals(2, 150), words("x")}},
		{page{1, 2}, []api.Column{wholes(2, nil), decimals(2, -25, 300), words("y", "x")}},
		{page{2, 1}, []api.Column{wholes(nil), decimals(2, 300), words("x")}},
		{page{3, 1}, []api.Column{wholes(4), decimals(2, nil), words("z")}},
		{page{3, 2}, []api.Column{wholes(4), decimals(2, nil), words("z")}},
		{page{0, 3}, []api.Column{wholes(1, 2, nil), decimals(2, 150, -25, 300), words("x", "y", "x")}},
		{page{0, 4}, []api.Column{wholes(1, 2, nil, 4), decimals(2, 150, -25, 300, nil), words("x", "y", "x", "z")}},
		{page{0, 5}, []api.Column{wholes(1, 2, nil, 4), decimals(2, 150, -25, 300, nil), words("x", "y", "x", "z")}},
		{page{0, math.MaxInt}, []api.Column{wholes(1, 2, nil, 4), decimals(2, 150, -25, 300, nil), words("x", "y", "x", "z")}},
		{page{1, math.MaxInt}, []api.Column{wholes(2, nil, 4), decimals(2, -25, 300, nil), words("y", "x", "z")}},
		{page{3, math.MaxInt - 1}, []api.Column{wholes(4), decimals(2, nil), words("z")}},
		{page{4, 1}, none}, {page{4, math.MaxInt}, none}, {page{5, 1}, none}, {page{1000, 1000}, none},
		{page{math.MaxInt, 1}, none}, {page{math.MaxInt - 1, 2}, none}, {page{math.MaxInt, math.MaxInt}, none},
	} {
		expectPage(t, "P8: a Scan", given, nodes, c.of, c.want...)
	}
}

func TestP8RowsOfTheLastNode(t *testing.T) {
	given := tables(sample())
	left := plan(scan(0), filter(0, col(0), num(1), op(api.Eq), op(api.Not)))
	expectPage(t, "P8: what a Filter left, the first", given, left, page{0, 1}, wholes(2), decimals(2, -25), words("y"))
	expectPage(t, "P8: what a Filter left, the second", given, left, page{1, 1}, wholes(4), decimals(2, nil), words("z"))
	expectPage(t, "P8: what a Filter left, and no third", given, left, page{2, 1}, wholes(), decimals(2), words())
	joined := plan(scan(0), scan(0), join(0, 1, ints(2), ints(2)), project(2, expr(col(0)), expr(col(3))))
	expectPage(t, "P8: pairs of a Join", given, joined, page{1, 3}, wholes(1, 2, nil), wholes(nil, 2, 1))
	expectPage(t, "P8: the last pairs of a Join", given, joined, page{4, 3}, wholes(nil, 4), wholes(nil, 4))
	grouped := plan(scan(0), group(0, ints(2), rowsOf(), agg(api.Sum, 1)))
	expectPage(t, "P8: groups have all of their rows", given, grouped, page{0, 1}, words("x"), wholes(2), decimals(2, 450))
	expectPage(t, "P8: groups behind the first", given, grouped, page{1, 5}, words("y", "z"), wholes(1, 1), decimals(2, -25, nil))
	made := plan(scan(0), project(0, expr(col(2)), expr(col(1), rescale(1))))
	expectPage(t, "P8: rows of a Project", given, made, page{2, 2}, words("x", "z"), decimals(1, 30, nil))
}

func TestP8MaxOut(t *testing.T) {
	keys := tables(table(equals(20), counting(20)), table(equals(15), counting(15)))
	nodes := append(byFirst(0, 1), project(2, expr(col(1), num(15), op(api.Mul), col(3), op(api.Add))))
	whole := table(counting(api.MaxOut))
	for _, of := range append(pages(), page{298, 1}, page{298, 2}, page{150, 151}, page{301, 1}) {
		expectTop(t, "P8: of MaxOut rows", keys, nodes, of, answer{table: cutTable(whole, of)})
	}
}

func TestP8NoRows(t *testing.T) {
	empty := tables(table(wholes(), decimals(3), words()))
	for _, of := range pages() {
		expectPage(t, "P8: a table without rows", empty, plan(scan(0)), of, empty[0].Cols...)
		expectPage(t, "P8: a Group without rows", empty, plan(scan(0), group(0, nil, rowsOf(), agg(api.Least, 2))), of, wholes(), words())
		expectPage(t, "P8: a Filter that left none", tables(sample()), plan(scan(0), filter(0, num(1), num(2), op(api.Eq))), of, wholes(), decimals(2), words())
	}
	for _, c := range telling() {
		columns, errno := quarry.Types(c.given, c.nodes)
		if errno != api.OK || run(c.given, c.nodes).errno != api.OK {
			continue
		}
		for _, of := range []page{{0, 0}, {1, 0}, {api.MaxOut, 1}, {math.MaxInt, math.MaxInt}} {
			expectPage(t, "P8: a page without rows", c.given, c.nodes, of, columns...)
		}
	}
}

// together takes page by page by one team after the other, until one is not full.
func together(t *testing.T, c call, count int) api.Table {
	t.Helper()
	var all api.Table
	for i := 0; ; i++ {
		by := teams()[i%len(teams())]
		got := top(c.given, c.nodes, by, page{i * count, count})
		if got.errno != api.OK || len(got.table.Cols) == 0 || len(got.table.Cols[0].Nulls) > count {
			t.Fatalf("P8: %+v: Top by %v from %d on, %d rows = %+v", c.nodes, by, i*count, count, got)
		}
		all = longer(all, got.table)
		if len(got.table.Cols[0].Nulls) < count {
			return all
		}
	}
}

func TestP8PagesTogetherAreTheWhole(t *testing.T) {
	good := 0
	for _, c := range telling() {
		whole := run(c.given, c.nodes)
		if whole.errno != api.OK {
			continue
		}
		good++
		for _, count := range ints(1, 2, 3, 7, 40, 41, api.MaxOut, api.MaxOut+1) {
			if got := together(t, c, count); !same(got, whole.table) {
				t.Errorf("P8: %+v: pages of %d together are %+v, Run = %+v", c.nodes, count, got, whole.table)
			}
		}
	}
	if good < 10 {
		t.Errorf("only %d of the plans come out well", good)
	}
}

func TestP7TopByEveryTeam(t *testing.T) {
	given := bulky()
	for i, nodes := range bulkyPlans() {
		of := page{i * 3, 10 + i}
		want := (&model{tables: given}).run(nodes)
		want.table = cutTable(want.table, of)
		for workers := 1; workers <= api.MaxWorkers; workers += 3 {
			for morsel := 1; morsel <= api.MaxMorsel; morsel++ {
				if got := top(given, nodes, team{workers, morsel}, of); !equal(got, want) {
					t.Fatalf("P7: %+v: Top by %d, %d of %v = %+v, want %+v", nodes, workers, morsel, of, got, want)
				}
			}
		}
	}
}

func TestP8AnyRightPlan(t *testing.T) {
	some, none, faults := 0, 0, 0
	for _, wild := range ints(8, 40, 2000) {
		r := rightPlans{rand.New(rand.NewSource(int64(wild + 1))), wild}
		for range 500 {
			given, nodes := r.call()
			want := (&model{tables: given}).run(nodes)
			of := page{r.source.Intn(12), r.source.Intn(12)}
			want.table = cutTable(want.table, of)
			switch {
			case want.errno != api.OK:
				faults++
			case len(want.table.Cols[0].Nulls) == 0:
				none++
			default:
				some++
			}
			for _, by := range teams() {
				if got := top(given, nodes, by, of); !equal(got, want) {
					t.Fatalf("P7, P8: %+v over %+v: Top by %v of %v = %+v, want %+v", nodes, given, by, of, got, want)
				}
			}
		}
	}
	if some < 100 || none < 100 || faults < 100 {
		t.Errorf("the plans are too much alike: %d with rows, %d without, %d with a fault", some, none, faults)
	}
}
